import Derived.Test.YtpibpdpedjinhaaGreatDoorP31
set_option maxRecDepth 100000
set_option maxHeartbeats 8000000
set_option linter.all false
open Bool renaming false->aL,true->bB
open Go renaming Addr->gF,Code->im,KeepsFrom->lB,OwnFrom->nA,Program->cY,Value->aD,World->U,callsIn_wide->km,heap_alloc_new->cX,run_endLoop->rI
open Go.Ending renaming returned->bX
open Go.Fence renaming wide->gS
open Go.IntKind renaming i64->X
open Go.Obj renaming cells->aG,deferred->eM
open Go.Value renaming bool->cF,int->N,pointer->aM
open Go.World renaming alloc_heap_new->oT,cell?_of_block->bN,putObj_heap_other->cE,putObj_heap_same->eR,putObj_size->eO
open Option renaming none->Z,some->M
namespace Go.Proofs.YtpibpdpedjinhaaGreatDoor
namespace Hm
open Go.RowKit
section
variable {XS:Nat->Prop}{P:cY}{lb:Array aD}
theorem wG{a b:U}(h:jO XS a b)(l:Nat)(o:Obj)(q:l<a.heap.size):jO XS (a.putObj l o) (b.putObj l o):=
 ⟨h.os,h.tape,h.output,by simpa using h.size,λk hk E=>by
  by_cases e:l=k
  .subst e;rw[eR q,eR (aP q h.size)]
  .rw[cE (Ne.symm e),cE (Ne.symm e)];exact h.block k (by simpa using hk) E⟩
def Yl{α:Type}(P:cY)(g:Nat)(lb:Array aD)(encs:α->Array aD)(XS:Nat->Prop)(St En:List α->U->Prop)(Y:List α->α->Nat->U->Prop)(S Sp:List α->Prop):Prop:=
 ∀(l:Nat)(J Jx:List α->U->Prop)(W:U),(∀k,XS k->k<l)->l<W.heap.size->St [] W->
  (∀q x E W1,J q E->jO XS E W1->Y q x E.heap.size W1->YieldAt gS 1 P l (encs x) W1 λe I=>
   (e=bX (cF bB)/\J (q++[x]) I/\W1.heap.size<=I.heap.size/\St (q++[x]) I/\∀k,E.heap.size<=k->k<W1.heap.size->I.heap[k]? =W1.heap[k]?)\/(e=bX (cF aL)/\Jx (q++[x]) I))->
  J [] W->
  CallsIn gS 2 P g (#[.func (.yield l) #[] #[]]++lb) W λe I=>(∃v,e=bX v)/\((∃xs E,S xs/\J xs E/\jO XS E I/\En xs I)\/(∃q E,Sp q/\Jx q E/\jO XS E I))
def ad3{α:Type}(B lo J:Nat)(E I:List α->U->Prop)(q:im->List α->U->Prop)(xs:List α)(W:U):Exit->Act->U->Prop
 |.normal,_,W'=>lB B W W'/\E xs W'/\(∀k,lo<=k->k<J->W'.heap[k]? =W.heap[k]?)/\I xs W'
 |.ret,_,W'=>lB B W W'/\q .ret xs W'
 |.exit id,_,W'=>lB B W W'/\q (.exit id) xs W'
 |.goto t,_,W'=>lB B W W'/\q (.goto t) xs W'
 |.panic _,_,_=>False
 |.outgrown,_,_=>False
def Qw{α:Type}(P:cY)(g:Nat)(lb:Array aD)(encs:α->Array aD)(XS:Nat->Prop)(E:U->U->Prop)(St En:List α->U->Prop)(Y:List α->α->Nat->U->Prop)(S Sp:List α->Prop):Prop:=
 ∀(l:Nat)(J Jx:List α->U->Prop)(W:U),(∀k,XS k->k<l)->l<W.heap.size->St [] W->
  (∀q x I W1,J q I->jO XS I W1->E I W1->Y q x I.heap.size W1->YieldAt gS 1 P l (encs x) W1 λe W'=>
   (e=bX (cF bB)/\J (q++[x]) W'/\W1.heap.size<=W'.heap.size/\St (q++[x]) W'/\∀k,I.heap.size<=k->k<W1.heap.size->W'.heap[k]? =W1.heap[k]?)\/(e=bX (cF aL)/\Jx (q++[x]) W'))->
  J [] W->
  CallsIn gS 2 P g (#[.func (.yield l) #[] #[]]++lb) W λe W'=>(∃v,e=bX v)/\((∃xs I,S xs/\J xs I/\jO XS I W'/\E I W'/\En xs W')\/(∃q I,Sp q/\Jx q I/\jO XS I W'/\E I W'))
theorem Yn{α:Type}{g:Nat}{encs:α->Array aD}{St En:List α->U->Prop}{Y:List α->α->Nat->U->Prop}{S Sp:List α->Prop}(h:Yl P g lb encs XS St En Y S Sp):Qw P g lb encs XS (λ_ _=>True) St En Y S Sp:=λl J Jx W h1 h2 h3 h4 h5=>
 (h l J Jx W h1 h2 h3 (λI x E W1 q1 q2 q3=>h4 I x E W1 q1 q2 trivial q3) h5).mono λ_ _ q=>⟨q.1,q.2.imp (λ⟨xs,E,a,b,c,d⟩=>⟨xs,E,a,b,c,trivial,d⟩) (λ⟨p,E,a,b,c⟩=>⟨p,E,a,b,c,trivial⟩)⟩
theorem y8{α:Type}{g:Operand}{ps:Array Tmp}{assign body:im}{Q:Exit->Act->U->Prop}{a:Act}{w:U}{gf:Nat}(hg:a.eval g=.func (.func gf) #[] lb)(eg:∀args w,(callFunc gf args).run P w=.ok (.enter gf args) w){encs:α->Array aD}{E:U->U->Prop}{St En:List α->U->Prop}{Y:List α->α->Nat->U->Prop}{S Sp:List α->Prop}(ar:Qw P gf lb encs XS E St En Y S Sp)(hM:∀k,XS k->k<w.heap.size)(hE:∀(A B:U)(l:Nat)(o:Obj),w.heap.size<=l->E A B->E (A.putObj l o) (B.putObj l o))(ao:nA w.heap.size St)(au:nA w.heap.size En)(hY:∀lo,nA w.heap.size (λ(q:List α×α) W=>Y q.1 q.2 lo W))(ax:∀x,(encs x).size=ps.size)(I:List α->U->Prop)(Ix:im->List α->U->Prop)(hI:nA w.heap.size I)(af:∀c,nA w.heap.size (Ix c))(h0:I [] w)(aw:St [] w)(ah:α->Nat->Act)(al:α->U->U)(hA:∀x W k,k<W.heap.size->(al x W).heap[k]? =W.heap[k]?)(az:∀x W,W.heap.size<=(al x W).heap.size)(av:∀x W l o,l<W.heap.size->(al x W).putObj l o=al x (W.putObj l o))(ae:∀(l:Nat)(x:α)(W:U)(K:Act->U->Prop),K (ah x W.heap.size) (al x W)->assign.wpIn (Fence.wide.inRound l) 1 P (Exit.then K (λ_ _ _=>False)) { tmps:=(ps.zip (encs x)).foldl (λt (p,v)=>t.setIfInBounds p v) a.tmps,defers:=[] } W)(aj:∀(l:Nat)(aa:List α)(x:α)(W0 W1:U),w.heap.size<=l->l<W0.heap.size->(∃r,W1.heap[l]? =M (.loop r))->I aa W0->jO XS W0 W1->E W0 W1->Y aa x W0.heap.size W1->body.wpIn (Fence.wide.inRound l) 1 P (ad3 w.heap.size W0.heap.size W1.heap.size St I Ix (aa++[x]) (al x W1)) (ah x W1.heap.size) (al x W1))(ak:∀(D:Nat)(xs:List α)(W0 W:U),w.heap.size<=D->D<W0.heap.size->S xs->I xs W0->jO XS W0 W->E W0 W->En xs W->W.heap[D]? =M (eM (M []))->Q .normal { a with defers:={ target:=.collected D,args:=#[] }::a.defers } W)(an:∀(D:Nat)(c:im)(aa:List α)(W0 W:U),w.heap.size<=D->D<W0.heap.size->Sp aa->Ix c aa W0->jO XS W0 W->E W0 W->W.heap[D]? =M (eM (M []))->c.wpIn gS 3 P Q { a with defers:={ target:=.collected D,args:=#[] }::a.defers } W):(Code.rangeFunc g ps assign body).wpIn gS 3 P Q a w:=by
 refine wpIn_rangeFunc λfn a2=>?_;obtain⟨rc,ab⟩:∃rc:LoopState->Option im->Loop,rc=λst pe=>{ state:=st,pending:=pe,fn,tmps:=a.tmps,params:=ps,assign,body,defers:=w.heap.size }:=⟨_,rfl⟩
 obtain⟨V,hV⟩:∃V,(w.alloc (eM (M []))).alloc (.loop (rc .ready Z))=V:=⟨_,rfl⟩
 have vl:V.heap[w.heap.size+1]? =M (.loop (rc .ready Z)):=by
  have:=oT (w.alloc (eM (M []))) (.loop (rc .ready Z));rw[fB,hV]at this;exact this
 have vd:V.heap[w.heap.size]? =M (eM (M [])):=by rw[<-hV];exact(aZ _ _ _ aC).trans (oT w _)
 have vI:I [] V:=by rw[<-hV];exact hI.alloc _ (hI.alloc _ h0)
 have vS:St [] V:=by rw[<-hV];exact ao.alloc _ (ao.alloc _ aw)
 have nl:¬XS (w.heap.size+1):=λh=>by have:=hM _ h;omega
 have nd:¬XS w.heap.size:=λh=>by have:=hM _ h;omega
 refine⟨w.heap.size+1,[{ target:=.collected w.heap.size,args:=#[] }],V,{ target:=.fn (.func gf) lb,args:=#[.func (.yield (w.heap.size+1)) #[] #[]] },V,gf,
  #[.func (.yield (w.heap.size+1)) #[] #[]]++lb,V,?_,?_,λ_ _=>trivial,by simp[invoke,go_sem,eg],λh=>by simp[gS]at h,?_⟩
 .rw[<-hV,ab];exact run_enterLoop_outer _ _ _ _ _
 .simp only[resolve,hg];simp[go_sem]
 refine(ar _
  (λaa W=>I aa W/\W.heap[w.heap.size+1]? =M _/\W.heap[w.heap.size]? =M _)
  (λaa W=>∃c,Ix c aa W/\W.heap[w.heap.size+1]? =M (.loop (rc .done (M c)))/\W.heap[w.heap.size]? =M (eM (M []))) V (λk hk=>by have:=hM k hk;omega) (jG vl) vS ?_ ⟨vI,vl,vd⟩).mono ?_
 .rintro aa x W0 W1 ⟨i0,l0,d0⟩ hb he hy;have ac:=(jG l0)
  have l1:=(hb.block _ ac nl).trans l0;have d1:=(hb.block _ (by omega:w.heap.size<W0.heap.size) nd).trans d0;have ag:=(jG l1)
  have ry:=run_yield (P:=P) (args:=encs x) l1 (by rw[ab];exact ax x);rw[ab]at ry;refine⟨fn,_,assign,body,ry,roundIn_of_wpIn a2 (ae _ x W1 _ ⟨_,run_beginRound ((hA _ _ _ ag).trans l1) (by rw[ab]),?_⟩)⟩;clear ry;rw[av _ _ _ _ ag];obtain⟨o,ho⟩:∃o:Obj,Obj.loop { rc .ready Z with state:=.busy }=o:=⟨_,rfl⟩
  rw[ho];have b1:=wG hb _ o ac
  have y1:Y aa x (W0.putObj (w.heap.size+1) o).heap.size (W1.putObj (w.heap.size+1) o):=by
   rw[eO];exact(hY _).putObj (s:=(aa,x)) o hy aA l1 rfl
  have am:=aj _ aa x _ _ aA aF ⟨_,(eR ag).trans (Z1 M ho.symm)⟩ (hI.putObj o i0 aA l0 rfl) b1 (hE _ _ _ _ aA he) y1;simp only[eO]at am;refine wpIn_mono am ?_;clear am;have a1:(al x (W1.putObj (w.heap.size+1) o)).heap[w.heap.size+1]? =M o:=(hA _ _ _ aF).trans (eR ag);have ay:(al x (W1.putObj (w.heap.size+1) o)).heap[w.heap.size]? =M (eM (M [])):=(hA _ _ _ aF).trans ((cE aA).trans d1);have ai:=az x (W1.putObj (w.heap.size+1) o)
  have fin:∀(J:Option im)(W3:U),lB w.heap.size (al x (W1.putObj (w.heap.size+1) o)) W3->
    (Instr.endRound (w.heap.size+1) J).run P W3=.ok (.bool J.isNone) (W3.putObj (w.heap.size+1) (.loop (rc (if J.isNone then .ready else .done) J)))/\
    W3.heap[w.heap.size+1]? =M o/\
    (W3.putObj (w.heap.size+1) (.loop (rc (if J.isNone then .ready else .done) J))).heap[w.heap.size+1]? =M (.loop (rc (if J.isNone then .ready else .done) J))/\
    (W3.putObj (w.heap.size+1) (.loop (rc (if J.isNone then .ready else .done) J))).heap[w.heap.size]? =M (eM (M [])):=λJ W3 aq=>by
   have q1:=aq.same _ _ aA a1 (by rw[<-ho];rfl);have q2:=aq.same _ _ jE ay rfl;have ap:=q1;rw[<-ho]at ap;have:=run_endRound (P:=P) J ap;refine⟨?_,q1,eR (jG q1),(cE aA).trans q2⟩;rw[ab]at this⊢;exact this
  rintro e a3 W3 hp;cases e with
  |normal=>
   obtain⟨k3,kk,kx,i3⟩:=hp;obtain⟨hr,l3,l4,d4⟩:=fin Z W3 k3;refine⟨_,_,hr,.inl ⟨rfl,⟨hI.putObj _ i3 aA l3 (by rw[<-ho];rfl),l4,d4⟩,by have:=k3.size;simp at ai⊢;omega,ao.putObj _ kk aA l3 (by rw[<-ho];rfl),λk h1 h2=>by rw[cE aA,kx k h1 h2,hA _ _ _ (by rw[eO];exact h2),cE aA]⟩⟩
  |ret=>
   obtain⟨k3,i3⟩:=hp;obtain⟨hr,l3,l4,d4⟩:=fin (M .ret) W3 k3;exact⟨_,_,hr,.inr ⟨rfl,_,(af _).putObj _ i3 aA l3 (by rw[<-ho];rfl),l4,d4⟩⟩
  |exit id=>
   obtain⟨k3,i3⟩:=hp;obtain⟨hr,l3,l4,d4⟩:=fin (M (.exit id)) W3 k3;exact⟨_,_,hr,.inr ⟨rfl,_,(af _).putObj _ i3 aA l3 (by rw[<-ho];rfl),l4,d4⟩⟩
  |goto t=>
   obtain⟨k3,i3⟩:=hp;obtain⟨hr,l3,l4,d4⟩:=fin (M (.goto t)) W3 k3;exact⟨_,_,hr,.inr ⟨rfl,_,(af _).putObj _ i3 aA l3 (by rw[<-ho];rfl),l4,d4⟩⟩
  |panic ch=>exact hp.elim
  |outgrown=>exact hp.elim
 .rintro e W2 ⟨⟨v,rfl⟩,(⟨xs,W0,hS,⟨i0,l0,d0⟩,hb,he,ai⟩|⟨aa,W0,hS,⟨c,i0,l0,d0⟩,hb,he⟩)⟩
  .have ac:=(jG l0)
   have l2:=(hb.block _ ac nl).trans l0;have d2:=(hb.block _ (by omega:w.heap.size<W0.heap.size) nd).trans d0;refine⟨Z,_,by have:=rI (P:=P) l2 (by rw[ab];simp);rw[ab]at this;exact this,?_⟩;exact ak _ xs _ _ jE aF hS (hI.putObj _ i0 aA l0 rfl) (wG hb _ _ ac) (hE _ _ _ _ aA he) (au.putObj _ ai aA l2 rfl) ((cE aA).trans d2)
  .have ac:=(jG l0)
   have l2:=(hb.block _ ac nl).trans l0;have d2:=(hb.block _ (by omega:w.heap.size<W0.heap.size) nd).trans d0;refine⟨M c,_,by have:=rI (P:=P) l2 (by rw[ab];simp);rw[ab]at this;exact this,?_⟩;exact an _ c aa _ _ jE aF hS ((af c).putObj _ i0 aA l0 rfl) (wG hb _ _ ac) (hE _ _ _ _ aA he) ((cE aA).trans d2)
end
open Go.RowKit Go.Joins Go.Shelf
open Dv (X2 Cf Ba)
structure uy where
 ws:List PW
 cnt:Nat
 ep:Nat
 sq:Nat
structure LV where
 i0:Int
 i1:Int
 i2:Int
 i3:Int
 i4:Int
 ta:Option gF
 tn:Nat
 tc:Nat
 da:Option gF
 dn:Nat
 dc:Nat
 i7:Int
def LV.cells(x:LV):Array aD:=#[N X x.i0,N X x.i1,N X x.i2,N X x.i3,N X x.i4,.slice x.ta x.tn x.tc,.slice x.da x.dn x.dc,N X x.i7]
structure DX where
 lv:LV
 e:Nat
 ob:Option PW
 s:uy
 s':uy
def DX.v(x:DX):aD:=.agg x.lv.cells
def DX.encs(x:DX):Array aD:=#[x.v]
def jM(s0:uy)(q:List DX):uy:=q.foldl (λ_ x=>x.s') s0
def tC(s0:uy)(q:List DX)(x:DX):jM s0 (q++[x])=x.s':=by simp[jM]
inductive Steps(c:Cf)(us:List PB)(s0:uy):List DX->Prop
 |nil:Steps c us s0 []
 |snoc {pre:List DX} {x:DX}:Steps c us s0 pre->x.s=jM s0 pre->jK c us x.s.ws x.s.cnt x.s.ep=(M (x.e,x.ob),x.s'.ws)->x.s'=⟨x.s'.ws,x.s.cnt+1,x.e,kE x.s.cnt x.s.ep x.s.sq x.e⟩->Steps c us s0 (pre++[x])
def DA(W:U)(kb:Nat)(c:Cf)(vu:aD)(us:List PB)(E:Nat->List (List UInt8))(nb:Nat)(vo vw:aD)(d:uy):Prop:=∃q,sD W kb c vu us E nb vo q d.ws d.cnt d.ep d.sq/\∀g,q.ownBlock=M g->vw.ownBlock=M g
def Gl(kb E:Nat)(c:Cf)(vu:aD)(us:List PB)(I:Nat->List (List UInt8))(nb:Nat)(vo vw:aD)(s0:uy)(q:List DX)(W:U):Prop:=DA W kb c vu us I nb vo vw (jM s0 q)/\W.cell? ⟨E,0,Z⟩=M (aM (M ⟨kb,0,Z⟩))
def DEn(kb:Nat)(c:Cf)(vu:aD)(us:List PB)(E:Nat->List (List UInt8))(nb:Nat)(vo vw:aD)(s0:uy)(q:List DX)(W:U):Prop:=DA W kb c vu us E nb vo vw ⟨(jK c us (jM s0 q).ws (jM s0 q).cnt (jM s0 q).ep).2,(jM s0 q).cnt,(jM s0 q).ep,(jM s0 q).sq⟩
def DY(kb J:Nat)(c:Cf)(vu:aD)(us:List PB)(E:Nat->List (List UInt8))(nb:Nat)(vo vw:aD)(s0:uy)(q:List DX)(x:DX)(lo:Nat)(W:U):Prop:=
 Steps c us s0 (q++[x])/\(∃I,x.v=loV x.s.cnt (lT c us x.s.cnt) x.e (Ia us x.e) x.s'.sq (ET x.ob) I (us.length-1)/\Made W lo I (if x.s'.sq=0 then E x.e else []))/\(∀b,x.ob=M b->kX W b.2 b.1.txs)/\x.e<us.length/\Gl kb J c vu us E nb vo vw s0 (q++[x]) W
def DS(c:Cf)(us:List PB)(s0:uy)(q:List DX):Prop:=Steps c us s0 q/\(jK c us (jM s0 q).ws (jM s0 q).cnt (jM s0 q).ep).1=Z
def VP(kb I:Nat)(c:Cf)(vu:aD)(us:List PB)(E:Nat->List (List UInt8))(nb:Nat)(vo vw:aD)(s0:uy)(q:List DX)(lo:Nat)(v:aD)(ok:Bool)(W:U):Prop:=
 (ok=bB/\∃x,x.v=v/\DY kb I c vu us E nb vo vw s0 q x lo W)\/(ok=aL/\DS c us s0 q/\DEn kb c vu us E nb vo vw s0 q W)
def Good(c:Cf)(us:List PB)(s0:uy):Prop:=∀q,Steps c us s0 q->(0<us.length->Ac c us (jM s0 q).ws (jM s0 q).cnt (jM s0 q).ep)/\(jM s0 q).sq<4294967296/\((jM s0 q).cnt=0->(jM s0 q).ep=0)
def UN{ob:Option PW}{w:U}(h:∀b,ob=M b->kX w b.2 b.1.txs):∃a n cap,ET ob=.slice a n cap:=by
 cases ob with
 |none=>exact⟨Z,0,0,rfl⟩
 |some b=>
  obtain⟨a,cap,e⟩:=Row.slice (h b rfl);exact⟨a,_,cap,e⟩
def OL{kb Y:Nat}{c:Cf}{vu:aD}{us:List PB}{dl:Nat->List (List UInt8)}{nb:Nat}{vo vw:aD}{s0:uy}{q:List DX}{W:U}(hp:Steps c us s0 q)(hG:Good c us s0)(hdl:∀j,(dl j).length<=4294967296)(aj:¬(Y=kb\/vw.ownBlock=M Y))(ah:Gl kb Y c vu us dl nb vo vw s0 q W):Calls PQ 76 #[aM (M ⟨kb,0,Z⟩)] W λx w'=>∃(i0 i1 i2 i3 i4:Int)(ta:Option gF)(tn tc:Nat)(da:Option gF)(dn dc:Nat)(i7:Int)(ok:Bool),x=bX (.tuple #[.agg #[N X i0,N X i1,N X i2,N X i3,N X i4,.slice ta tn tc,.slice da dn dc,N X i7],.bool ok]) /\jO (λk=>k=kb\/vw.ownBlock=M k) W w'/\VP kb Y c vu us dl nb vo vw s0 q W.heap.size (.agg #[N X i0,N X i1,N X i2,N X i3,N X i4,.slice ta tn tc,.slice da dn dc,N X i7]) ok w'/\w'.cell? ⟨Y,0,Z⟩=M (aM (M ⟨kb,0,Z⟩)):=by
 obtain⟨⟨ag,hD,I⟩,J⟩:=ah;obtain⟨g1,g2,g3⟩:=hG q hp;have ai:Y<W.heap.size:=fG W _ J;refine aT (Gz kb c vu us dl nb vo ag _ _ _ _ W hD g1 g2 hdl) ?_;rintro x w' ⟨h1,h2⟩;have hc:=h2.mono (λk _ e=>e.imp (λe=>e) (λe=>I k e));have E:=(bN (hc.block Y ai aj)).trans J;cases hr:jK c us (jM s0 q).ws (jM s0 q).cnt (jM s0 q).ep with
 |mk o ws'=>
  rw[hr]at h1;cases o with
  |none=>
   obtain⟨rfl,aa,ab,ac⟩:=h1;exact⟨0,0,0,0,0,Z,0,0,Z,0,0,0,aL,rfl,hc,.inr ⟨rfl,⟨hp,by rw[hr]⟩,aa,by rw[hr];exact ab,λg hg=>I g (ac g hg)⟩,E⟩
  |some o=>
   obtain⟨e,ob⟩:=o;obtain⟨he,vd,rfl,hm,ht,aa,ab,ac⟩:=h1;obtain⟨ta,tn,tc,ae⟩:=UN ht;obtain⟨da,dn,dc,af⟩:=tK hm;refine⟨(jM s0 q).cnt,lT c us _,e,Ia us e,kE _ _ _ e,ta,tn,tc,da,dn,dc,(us.length-1:Nat),bB,?_,hc,.inl ⟨rfl,⟨⟨(jM s0 q).cnt,lT c us (jM s0 q).cnt,e,Ia us e,kE (jM s0 q).cnt (jM s0 q).ep (jM s0 q).sq e,ta,tn,tc,da,dn,dc,(us.length-1:Nat)⟩,e,ob,jM s0 q,⟨ws',(jM s0 q).cnt+1,e,kE _ _ _ e⟩⟩,rfl,.snoc hp rfl hr rfl,⟨vd,?_,hm⟩,ht,he,?_,E⟩,E⟩
   .dsimp only;rw[ae,af];rfl
   .dsimp only;rw[ae,af];rfl
   .rw[tC];exact⟨aa,ab,λg hg=>I g (ac g hg)⟩
section
variable {W:U}{kb nb cB lo lo' R:Nat}{c:Cf}{vu vo vw v:aD}{us:List PB}{dl:Nat->List (List UInt8)}{s0 d:uy}{pre:List DX}{ok:Bool}{rc:Array aD}
def mW(kb:Nat)(c:Cf)(us:List PB)(W:U):Nat:=match W.heap[kb]? with
 |some (aG cs _ _)=>match (cs[10]?:Option aD),(cs[11]?:Option aD),(cs[12]?:Option aD)with
  |some (.slice _ n _),M (.int _ a),M (.int _ e)=>n+(us.length-e.toNat)+((4294967298-lT c us a.toNat)/2).toNat
  |_,_,_=>0
 |_=>0
theorem acN{ws:List PW}{cnt ep sq:Nat}(h:sD W kb c vu us dl nb vo vw ws cnt ep sq):mW kb c us W=meas c us ws cnt ep:=by obtain⟨a,cap,e⟩:=Row.slice h.wait;unfold mW;rw[h.obj,e];simp[jT,meas]
def abC:aD->Bool
 |cF b=>b
 |_=>aL
def mL(kb:Nat)(c:Cf)(us:List PB)(t:aD)(W:U):Nat:=if abC t then mW kb c us W+1 else 0
theorem VP.below{W':U}(h:VP kb cB c vu us dl nb vo vw s0 pre lo v ok W)(I:Below W.heap.size W W')(aa:lo'<=lo):VP kb cB c vu us dl nb vo vw s0 pre lo' v ok W':=by
 have E:∀d,DA W kb c vu us dl nb vo vw d->DA W' kb c vu us dl nb vo vw d:=λd ⟨J,q,h2⟩=>⟨J,q.below I,h2⟩
 obtain⟨e,x,hx,q,⟨vd,h2,h3⟩,h4,h5,h6,h7⟩|⟨e,q,h2⟩:=h
 .exact .inl ⟨e,x,hx,q,⟨vd,h2,Row.below h3.1 I,λg hg=>bH aa (h3.2 g hg)⟩,λb Y=>Row.below (h4 b Y) I,h5,E _ h6,(I.cell (p:=⟨cB,0,Z⟩) (fG W _ h7)).trans h7⟩
 .exact .inr ⟨e,q,E _ h2⟩
theorem DA.rY(h:DA W kb c vu us dl nb vo vw d)(E:W.heap[R]? =M (aG rc 62 (0,0)))(q Y x2 x3 I x5 J x7:aD):DA (rY W R q Y x2 x3 I x5 J x7) kb c vu us dl nb vo vw d:=
 let ⟨vw',h1,h2⟩:=h
 ⟨vw',Dj h1 E _ _ _ _ _ _ _ _,h2⟩
theorem VP.rY(h:VP kb cB c vu us dl nb vo vw s0 pre lo v ok W)(ab:lo'<=lo)(hR:W.heap[R]? =M (aG rc 62 (0,0)))(aa:cB≠R)(q x1 Y I E x5 x6 J:aD):VP kb cB c vu us dl nb vo vw s0 pre lo' v ok (rY W R q x1 Y I E x5 x6 J):=by
 have hS:=λu n l (h:Row W 9 1 u n l)=>Fh h hR q x1 Y I E x5 x6 J;have hD:=λd (h:DA W kb c vu us dl nb vo vw d)=>h.rY hR q x1 Y I E x5 x6 J;have hC:=(kW W R q x1 Y I E x5 x6 J).block cB;revert hS hD hC;generalize Hm.rY W R q x1 Y I E x5 x6 J=Wa;intro hS hD hC;obtain⟨e,x,hx,h1,⟨vd,h2,h3⟩,h4,h5,h6,h7⟩|⟨e,h1,h2⟩:=h
 .refine .inl ⟨e,x,hx,h1,⟨vd,h2,?_,λg hg=>bH ab (h3.2 g hg)⟩,?_,h5,hD _ h6,?_⟩
  .exact hS _ _ _ h3.1
  .intro b hb;exact hS _ _ _ (h4 b hb)
  .exact(bN (hC (fG W _ h7) aa)).trans h7
 .exact .inr ⟨e,h1,hD _ h2⟩
theorem QF{x:DX}(h:Steps c us s0 (pre++[x])):x.s=jM s0 pre/\jK c us x.s.ws x.s.cnt x.s.ep=(M (x.e,x.ob),x.s'.ws)/\x.s'=⟨x.s'.ws,x.s.cnt+1,x.e,kE x.s.cnt x.s.ep x.s.sq x.e⟩:=by
 generalize q:pre++[x]=l at h;cases h with
 |nil=>simp at q
 |snoc h1 h2 h3 h4=>
  obtain⟨rfl,e⟩:=List.append_inj' q rfl;cases e;exact⟨h2,h3,h4⟩
theorem ZP(h:VP kb cB c vu us dl nb vo vw s0 pre lo v ok W)(hG:Good c us s0)(hp:Steps c us s0 pre)(E:2<=c.step):mL kb c us (.bool ok) W<meas c us (jM s0 pre).ws (jM s0 pre).cnt (jM s0 pre).ep+1:=by
 obtain⟨rfl,x,hx,I,_,_,h5,q⟩|⟨rfl,I,h2⟩:=h
 .obtain⟨⟨aa,q,_⟩,_⟩:=q;rw[tC]at q;obtain⟨e1,e2,Y⟩:=QF I;obtain⟨J,g2,g3⟩:=hG pre hp;rw[<-e1]at J g3⊢;have hm:=TR (J aA) E g3 e2;unfold mL abC;rw[ZD rfl,acN q];have ec:x.s'.cnt=x.s.cnt+1:=by rw[Y]
  have ee:x.s'.ep=x.e:=by rw[Y]
  rw[ec,ee];omega
 .unfold mL abC;rw[Zs aC];omega
theorem abO(h:DA W kb c vu us dl nb vo vw d):mL kb c us (cF bB) W=meas c us d.ws d.cnt d.ep+1:=by obtain⟨E,q,_⟩:=h;unfold mL abC;rw[ZD rfl,acN q]
theorem BJ{W3 w4:U}{o:Obj}(hc:jO (λk=>k=kb\/vw.ownBlock=M k) (W3.alloc o) w4)(ha:VP kb cB c vu us dl nb vo vw s0 pre (W3.alloc o).heap.size v ok w4)(hl:w4.heap[W3.heap.size]? =M (aG rc 62 (0,0)))(cb:w4.cell? ⟨cB,0,Z⟩=M (aM (M ⟨kb,0,Z⟩)))(aa:cB<W3.heap.size)(q x1 Y I E x5 x6 J:aD):VP kb cB c vu us dl nb vo vw s0 pre W3.heap.size v ok (rY w4 W3.heap.size q x1 Y I E x5 x6 J)/\jO (λk=>k=kb\/vw.ownBlock=M k) W3 (rY w4 W3.heap.size q x1 Y I E x5 x6 J)/\(rY w4 W3.heap.size q x1 Y I E x5 x6 J).cell? ⟨cB,0,Z⟩=M (aM (M ⟨kb,0,Z⟩)):=by
 have h1:=VP.rY (lo':=W3.heap.size) ha aC hl (iQ aa) q x1 Y I E x5 x6 J;have h2:=kW w4 W3.heap.size q x1 Y I E x5 x6 J;revert h1 h2;generalize rY w4 W3.heap.size q x1 Y I E x5 x6 J=Wa;intro h1 h2;exact⟨h1,((jO.alloc _ W3 o).trans hc (λ_ _ e=>e)).trans h2 (λk hk e=>Xs e (iQ hk)),(bN (h2.block cB (fG w4 _ cb) (iQ aa))).trans cb⟩
end
end Hm
namespace Hm
open Go.RowKit Go.Joins Go.Shelf
open Dv (X2 Cf Ba)
attribute [local go_sem] Oper.semAt_some
def Lr(kb E:Nat)(c:Cf)(vu:aD)(us:List PB)(dl:Nat->List (List UInt8))(nb:Nat)(vo vw:aD)(s0:uy)(hG:Good c us s0)(a6:2<=c.step)(hdl:∀j,(dl j).length<=4294967296)(af:¬(E=kb\/vw.ownBlock=M E)):Yl PQ 75 #[aM (M ⟨E,0,Z⟩)] DX.encs (λk=>k=kb\/vw.ownBlock=M k) (Gl kb E c vu us dl nb vo vw s0) (DEn kb c vu us dl nb vo vw s0) (DY kb E c vu us dl nb vo vw s0) (DS c us s0) (λ_=>True):=by
 intro l J Jx W hM au ai an aq;have ay:=λk hk=>Nat.lt_trans (hM k hk) au;have Hn:=λq V hp (h:Gl kb E c vu us dl nb vo vw s0 q V)=>OL hp hG hdl af h;have HN:Hid _:=Hn;have HY:Hid _:=an;have a5:Hid _:=aq;have HS:Hid _:=ai;have cb:=ai.2;have HG:Hid _:=jD hG (jD af ay);clear an aq Hn ai hG af hM ay au;refine callsIn_of_wp (fq Tryz.func75 rfl) rfl trivial ?_ rfl;simp only[Tryz.ntmps75,dR,aU,bY,Nat.reduceAdd,Nat.reduceSub,dH,dG,dU,dI,dS,dN];gi_wp2;refine⟨trivial,(km.2 (HN.out [] W .nil HS.out)).mono ?_⟩;rintro x1 w1 ⟨i0,i1,i2,i3,i4,ta,tn,tc,da,dn,dc,i7,ok,rfl,av,ak,ab⟩;have HA:Hid _:=jD av ak;clear av ak;gi_wp2
 gi_loopw [3,4] (λv3 v4 wr=>∃(lb:Nat)(i0 i1 i2 i3 i4:Int)(ta:Option gF)(tn tc:Nat)(da:Option gF)(dn dc:Nat)(i7:Int)(ok:Bool)(q:List DX)(W0:U),v3=aM (M ⟨lb,0,Z⟩)/\v4=.bool ok/\wr.heap[lb]? =M (aG #[N X i0,N X i1,N X i2,N X i3,N X i4,.slice ta tn tc,.slice da dn dc,N X i7] 62 (0,0))/\wr.cell? ⟨E,0,Z⟩=M (aM (M ⟨kb,0,Z⟩))/\Hid (J q W0/\jO (λk=>k=kb\/vw.ownBlock=M k) W0 wr/\W0.heap.size<=lb/\W.heap.size<=W0.heap.size/\VP kb E c vu us dl nb vo vw s0 q W0.heap.size (.agg #[N X i0,N X i1,N X i2,N X i3,N X i4,.slice ta tn tc,.slice da dn dc,N X i7]) ok wr))
  (λ_ v4 wr=>mL kb c us v4 wr)
 case atStart=>
  have hb:=(aJ _ w1).alloc jE (aG #[N X i0,N X i1,N X i2,N X i3,N X i4,.slice ta tn tc,.slice da dn dc,N X i7] 62);exact⟨_,i0,i1,i2,i3,i4,ta,tn,tc,da,dn,dc,i7,ok,[],W,rfl,rfl,cX _ _,(hb.cell (p:=⟨E,0,Z⟩) (fG w1 _ ab)).trans ab,⟨a5.out,HA.out.1.trans (.below hb jE _) (λ_ _ e=>e),HA.out.1.size,jE,HA.out.2.below hb jE⟩⟩
 case round=>
  clear HA ab cb;obtain⟨lb,i0,i1,i2,i3,i4,ta,tn,tc,da,dn,dc,i7,ok,q,W0,rfl,rfl,aj,cb,Hr⟩:=hrel;obtain⟨l0,l1,l2,l3,l4,l5,l6,l7,lf⟩:=mJ aj;cases ok with
  |false=>
   gi_wp2;go_end0;obtain⟨hJ,hc,ar,am,ha⟩:=Hr.out;obtain⟨e,_⟩|⟨_,hS,hE⟩:=ha
   .cases e
   .exact⟨⟨_,rfl⟩,.inl ⟨q,W0,hS,hJ,hc,hE⟩⟩
  |true=>
   obtain⟨hJ,hc,ar,am,ha⟩:=Hr.out;obtain⟨_,x,ag,hy⟩|⟨e,_⟩:=ha
   .obtain⟨fn,tmps,assign,body,a9,hR⟩:=HY.out q x W0 wr hJ hc hy;simp only[DX.encs,ag]at a9;have HR:Hid _:=hR;have Hy:Hid _:=jD hy ag;clear hR hy hc hJ ar ag am;have ax:=(jG aj)
    gi_wp2;refine RoundIn.mono HR.out ?_;rintro e W3 (⟨rfl,a3,ao,Y,a1⟩|⟨rfl,az⟩)
    .have aw:=(a1 lb Hr.out.2.2.1 ax).trans aj;obtain⟨m0,m1,m2,m3,m4,m5,m6,m7,mf⟩:=mJ aw;have a4:=Y.2;have H3:Hid _:=jD a3 (jD ao Y);have ae:E<W3.heap.size:=fG W3 _ a4;have ba:=λo=>(((aJ _ W3).alloc jE o).cell (p:=⟨E,0,Z⟩) ae).trans a4;have aa:∀o,Gl kb E c vu us dl nb vo vw s0 (q++[x]) (W3.alloc o):=λo=>⟨let ⟨vw',q1,q2⟩:=Y.1;⟨vw',q1.below ((aJ _ W3).alloc jE o),q2⟩,ba o⟩
     have bb:Hid _:=aa;clear a3 ao Y a1 aw aa;gi_wp2;refine⟨trivial,(km.2 (HN.out _ _ Hy.out.1.1 (bb.out _))).mono ?_⟩;rintro x1 w4 ⟨j0,j1,j2,j3,j4,ja,jn,jc,ka,kn,kc,j7,a7,rfl,ac,ap,a8⟩
     have a2:¬(W3.heap.size=kb\/vw.ownBlock=M W3.heap.size):=λh=>by
      have q1:=HG.out.2.2 _ h;have q2:=Hr.out.2.2.2.1;have q3:=Hr.out.2.1.size;have q4:=H3.out.2.1;omega
     have ah:=(ac.block _ aC a2).trans (cX W3 _);obtain⟨n0,n1,n2,n3,n4,n5,n6,n7,nf⟩:=mJ ah;have I:Hid _:=jD ac (jD ap (jD ah a8));clear ac ap ah a2;gi_wp2;go_roundw
     case rel=>
      have hE:=BJ I.out.1 I.out.2.1 I.out.2.2.1 I.out.2.2.2 ae (N X j0) (N X j1) (N X j2) (N X j3) (N X j4) (.slice ja jn jc) (.slice ka kn kc) (N X j7);have hO:=EZ I.out.2.2.1 (N X j0) (N X j1) (N X j2) (N X j3) (N X j4) (.slice ja jn jc) (.slice ka kn kc) (N X j7);exact⟨_,j0,j1,j2,j3,j4,ja,jn,jc,ka,kn,kc,j7,a7,_,W3,rfl,rfl,hO,hE.2.2,⟨H3.out.1,hE.2.1,jE,bH Hr.out.2.2.2.1 (bH Hr.out.2.1.size H3.out.2.1),hE.1⟩⟩
     case measure=>
      have hE:=BJ I.out.1 I.out.2.1 I.out.2.2.1 I.out.2.2.2 ae (N X j0) (N X j1) (N X j2) (N X j3) (N X j4) (.slice ja jn jc) (.slice ka kn kc) (N X j7);have hm:=Nat.lt_of_lt_of_eq (ZP hE.1 HG.out.1 Hy.out.1.1 a6) (abO Hy.out.1.2.2.2.2.1).symm;clear hE;unfold rY at hm;exact hm
    .gi_wp2;refine bodyPost_ret (results_none rfl _ _ _) rfl ?_;exact⟨⟨_,rfl⟩,.inr ⟨_,W3,trivial,az,jO.refl _ _⟩⟩
   .cases e
end Hm
namespace Dv
open Fr (F)
section
variable {b:Option Int}{u:X2}{l:List X2}
theorem lu{r:List X2}(h:kK b (u::r)=bB):lX b u=bB/\kK (M u.time) r=bB:=by simpa[kK]using h
theorem Gh(h:lX b u=bB):small u=bB:=by unfold lX at h;simp only[dF]at h;exact h.2
theorem Bf:∀(l:List X2)(b:Int),kK (M b) l=bB->∀k,k<l.length->b+(k:Int)<(l[k]!).time/\(l[k]!).time<=b+24*((k:Int)+1)
 |[],_,_,k,hk=>by simp at hk
 |u::r,b,h,0,_=>by
  have q:=(lu h).1;unfold lX at q;simp only[dF,Z3]at q;simp only[List.getElem!_cons_zero];omega
 |u::r,b,h,k+1,hk=>by
  have q:=(lu h).1;unfold lX at q;simp only[dF,Z3]at q;have:=Bf r u.time (lu h).2 k (by simpa using hk);simp only[jq];omega
theorem Bh:∀(l:List X2)(b:Option Int),kK b l=bB->∀i j,i<j->j<l.length->(l[i]!).time+((j:Int)-(i:Int))<=(l[j]!).time/\(l[j]!).time<=(l[i]!).time+24*((j:Int)-(i:Int))
 |[],_,_,_,j,_,hj=>by simp at hj
 |u::r,b,h,0,j+1,_,hj=>by
  have:=Bf r _ (lu h).2 j (by simpa using hj);simp only[List.getElem!_cons_zero,jq];omega
 |u::r,b,h,i+1,j+1,hij,hj=>by
  have:=Bh r (M u.time) (lu h).2 i j aA (by simpa using hj);simp only[jq];omega
theorem oN:∀(l:List X2)(b:Option Int),kK b l=bB->∀k,k<l.length->small (l[k]!)=bB
 |[],_,_,k,hk=>by simp at hk
 |u::r,b,h,0,_=>Gh (lu h).1
 |u::r,b,h,k+1,hk=>by
  rw[jq];exact oN r _ (lu h).2 k (by simpa using hk)
theorem kU(h:jY l=bB):1<=l.length/\l.length<=60/\kK Z l=bB/\0<=(l[0]!).time/\(l[0]!).time<=1000000:=by
 unfold jY at h;simp only[dF,Z3]at h;obtain⟨⟨q,h2⟩,h3⟩:=h;refine⟨q,h2,h3,?_⟩;cases l with
 |nil=>simp at q
 |cons u r=>
  have:=(lu h3).1;unfold lX at this;simp only[dF,Z3]at this;simpa using this.1
theorem uw(h:jY l=bB){i j:Nat}(E:i<=j)(I:j<l.length):(l[i]!).time+((j:Int)-(i:Int))<=(l[j]!).time/\(l[j]!).time<=(l[i]!).time+24*((j:Int)-(i:Int)):=by
 obtain q|rfl:=jr E
 .exact Bh l Z (kU h).2.2.1 i j q I
 .omega
theorem U1(h:jY l=bB){i:Nat}(q:i<l.length):0<=(l[i]!).time/\(l[i]!).time<=1001440:=by have E:=kU h;have h2:=uw h (dL i) q;omega
section
variable (c:Cf)(chain:List X2)(n:Nat)
theorem DZ(e:Nat)(t:Int):∀l:List Ba,(sift c chain n e t l).2.length<=l.length
 |[]=>by simp[sift]
 |b::r=>by
  have q:=DZ e t r;rw[sift]
  repeat' split
  all_goals simp only[aU]
  all_goals omega
theorem Nw(e:Nat)(t:Int):∀(l:List Ba)(x:Ba),x∈(sift c chain n e t l).2->x∈l
 |[],x,h=>by simp[sift]at h
 |b::r,x,h=>by
  have q:=Nw e t r x;rw[sift]at h;split at h
  .grind
  .grind
theorem NH(e:Nat)(t:Int):∀(l:List Ba)(b:Ba),(sift c chain n e t l).1=.got b->b∈l/\(b.time:Int)=t/\e<=b.epoch/\b.epoch<=e+1/\(b.epoch:Int)+c.window≥(b.place:Int)/\holds c chain n e t b=aL/\wrong c chain e t b=aL/\(sift c chain n e t l).2.length+1<=l.length
 |[],b,h=>by simp[sift]at h
 |x::r,b,h=>by
  have E:=NH e t r b;rw[sift]at h⊢;split at h
  .grind
  .rename_i q;rw[Zs q];split at h
   .grind
   .rename_i h2;rw[Zs h2];split at h
    .cases h
    .rename_i h3;rw[Zs h3];split at h
     .grind
     .rename_i h4;rw[Zs h4];cases h;simp only[late,iV,Z3,not_or]at h2;exact⟨dQ ..,aA,aA,aA,aA,by simpa using h3,by simpa using h4,aC⟩
theorem ZQ(h:Lo)(wait:List Ba):(draw c chain n h wait).2.length<=wait.length:=by
 have:=DZ c chain n h.epoch (h.time+c.step) wait;unfold draw;simp only;split
 .exact this
 .exact this
 .split<;>exact this
theorem wF{h x:Lo}{wait k:List Ba}(Y:jY chain=bB)(q:jP c=bB)(J:n<chain.length)(he:h.epoch<=n)(hd:draw c chain n h wait=(M x,k)):h.epoch<=x.epoch/\x.epoch<=h.epoch+1/\x.epoch<=n/\x.time=h.time+c.step/\x.number=h.number+1/\x.at_=n/\x.id=(chain[x.epoch]!).id/\k.length+1+(n-x.epoch)+((chain[n]!).time-x.time).toNat<=wait.length+(n-h.epoch)+((chain[n]!).time-h.time).toNat:=by
 unfold jP at q;simp only[Z3]at q;have hl:=DZ c chain n h.epoch (h.time+c.step) wait;unfold draw at hd;simp only at hd;split at hd
 .simp at hd
 .rename_i b I;simp only[dJ,aK]at hd;obtain⟨rfl,rfl⟩:=hd;obtain⟨_,_,i3,i4,_,E,_,i8⟩:=NH c chain n _ _ _ _ I
  have hk:b.epoch<=n:=by
   unfold holds at E;simp only[iw,jf,beq_eq_false_iff_ne,Z6]at E;omega
  simp only[lay];refine⟨i3,i4,hk,trivial,trivial,trivial,trivial,?_⟩;omega
 .split at hd
  .simp at hd
  .rename_i hw;simp only[dJ,aK]at hd;obtain⟨rfl,rfl⟩:=hd;simp only[lay];by_cases ht:(chain[h.epoch+1]!).time<=h.time+c.step
   .grind
   .rw[Zs ht];have:=uw Y (i:=h.epoch+1) (j:=n) aA J;refine⟨aA,aA,aA,trivial,trivial,trivial,trivial,?_⟩;omega
theorem yF(I:jY chain=bB)(q:jP c=bB)(J:n<chain.length):∀(f E:Nat)(h:Lo)(wait:List Ba),h.epoch<=n->left chain n h wait<f->left chain n h wait<E->draws c chain n f h wait=draws c chain n E h wait
 |0,_,_,_,_,h,_=>aA
 |_,0,_,_,_,_,h=>aA
 |f+1,E+1,h,wait,he,h1,h2=>by
  rw[draws,draws];cases hd:draw c chain n h wait with
  |mk o k=>
   cases o with
   |none=>rfl
   |some x=>
    have hs:=wF c chain n I q J he hd;unfold left at h1 h2;have Y:=yF I q J f E x k aA (by unfold left;omega) (by unfold left;omega);simp only[Y]
theorem Bd(I:jY chain=bB)(q:jP c=bB)(J:n<chain.length):∀(f:Nat)(h:Lo)(wait:List Ba),h.epoch<=n->
  let r:=draws c chain n f h wait
  let z:=(h::r.1).getLastD default
  z.epoch<=n/\h.epoch<=z.epoch/\z.time=h.time+c.step*(r.1.length:Int)/\z.number=h.number+r.1.length/\r.2.length+r.1.length+(n-z.epoch)+((chain[n]!).time-z.time).toNat<=wait.length+(n-h.epoch)+((chain[n]!).time-h.time).toNat
 |0,h,wait,he=>by simp[draws];exact he
 |f+1,h,wait,he=>by
  rw[draws];cases hd:draw c chain n h wait with
  |mk o k=>
   cases o with
   |none=>
    have:=ZQ c chain n h wait;rw[hd]at this;simp only[List.getLastD_cons,List.getLastD_nil,bY]at this⊢;refine⟨he,jE,aA,aA,aA⟩
   |some x=>
    have hs:=wF c chain n I q J he hd;have E:=Bd I q J f x k aA;simp only[List.getLastD_cons,aU]at E⊢;obtain⟨i1,i2,i3,i4,Y⟩:=E;refine⟨i1,aA,?_,aA,aA⟩;rw[i3,hs.2.2.2.1]
    push_cast
    rw[Int.mul_add];omega
end
theorem IJ:∀(f:Nat)(s:List UInt8)(p:Nat)(l:List F),p<=s.length->Fr.rest f s p=M l->p+9*l.length<=s.length
 |0,s,p,l,hp,h=>by
  simp only[Fr.rest]at h;split at h
  .grind
  .simp at h
 |f+1,s,p,l,hp,h=>by
  rw[Fr.rest]at h;split at h
  .grind
  .cases ho:Fr.one s p with
   |none=>rw[ho]at h;simp at h
   |some x=>
    obtain⟨x,n⟩:=x;rw[ho]at h;simp only at h;obtain⟨t,ht,rfl⟩:=bI.1 h;have q:=Fr.one_le ho;have:=IJ f s _ t q.2 ht;simp only[aU];omega
theorem MK(s:List UInt8):9*((Fr.frames s).getD []).length<=s.length:=by
 cases h:Fr.frames s with
 |none=>simp
 |some l=>
  unfold Fr.frames at h;split at h
  .simp at h
  .rename_i h2;have:=IJ _ _ _ _ aA h;simp only[fH];omega
theorem AB(c:Cf)(t:Tx)(h:t.data.length<=2000):(oI c t).length<=222:=by
 unfold oI;split
 .have:=MK t.data;omega
 .simp
theorem IX(c:Cf):∀(l:List Tx),(∀t,t∈l->t.data.length<=2000)->(heard c l).length<=222*l.length
 |[],_=>by simp[heard]
 |t::l,h=>by
  have q:=IX c l (λx E=>h x (cZ _ E));have I:=AB c t (h t (dQ ..));unfold heard at q⊢;rw[gY,aS,aU];omega
theorem wX(h:small u=bB):u.txs.length<=20/\u.logs.length<=20/\(∀t,t∈u.txs->t.data.length<=2000)/\(∀s,s∈u.logs->s.length<=2000):=by unfold small at h;simp only[dF,Z3,fF]at h;exact⟨h.1.1.1,h.1.1.2,h.1.2,h.2⟩
theorem Bj(c:Cf)(h:small u=bB):(heard c u.txs).length<=4440:=by have q:=wX h;have:=IX c _ q.2.2.1;omega
theorem Us(most:Int)(n:Nat)(cs:List Ch)(f:F):(frame most n cs f).length<=cs.length+1:=by
 unfold frame;split
 .grind
 .simp
theorem uT(most:Int)(n:Nat):∀(l:List F)(cs:List Ch),(l.foldl (frame most n) cs).length<=cs.length+l.length
 |[],cs=>aC
 |f::l,cs=>by
  have q:=uT most n l (frame most n cs f);have h2:=Us most n cs f;simp only[List.foldl_cons,aU];omega
theorem Fp:∀cs:List Ch,(pull cs).1.length+(pull cs).2.length=cs.length
 |[]=>by simp[pull]
 |c::cs=>by
  rw[pull];split
  .simp
  .have:=Fp cs;simp only[aU];omega
theorem uj:∀(f:Nat)(s:List UInt8)(most:Int)(out:List UInt8),(out.length:Int)<=max most 0->((Sq.spread f s most out).1.length:Int)<=max most 0
 |0,_,_,out,h=>h
 |f+1,s,most,out,h=>by
  rw[Sq.spread];split
  .exact h
  .split
   .exact h
   .split
    .grind
    .rename_i h2;exact uj f _ _ _ (by grind)
theorem WH:∀(f:Nat)(s:List UInt8)(n:Nat),(rd f s n).length<=f
 |0,_,_=>by simp[rd]
 |f+1,s,n=>by
  rw[rd];split
  .simp
  .split
   .simp
   .split
    .simp
    .rename_i _ i k _ _ b _;have:=WH f (s.drop k) n;rw[aS];split<;>simp only[aU,bY]<;>omega
theorem Vu(s:List UInt8)(n:Nat):(reads s n).length<=4096:=by have q:=WH (Sq.spread s.length s 4096 []).1.length (Sq.spread s.length s 4096 []).1 n;have h2:=uj s.length s 4096 [] (by grind);unfold reads;omega
theorem xY(n:Nat):∀l:List (List UInt8),(l.flatMap (λs=>reads s n)).length<=4096*l.length
 |[]=>aC
 |s::l=>by
  have q:=xY n l;have h2:=Vu s n;rw[gY,aS,aU];omega
theorem take_len(c:Cf)(u:X2)(n:Nat)(cs:List Ch)(wait:List Ba)(q:small u=bB):4096*(take c u n cs wait).1.length+(take c u n cs wait).2.length<=4096*cs.length+wait.length+18186240:=by have E:=Bj c q;have h2:=uT c.most n (heard c u.txs) (cs.filter λx=>decide (n-x.opened<=c.timeout));have h3:=gZ (λx:Ch=>decide (n-x.opened<=c.timeout)) cs;have h4:=Fp ((heard c u.txs).foldl (frame c.most n) (cs.filter λx=>decide (n-x.opened<=c.timeout)));have I:=xY n (pull ((heard c u.txs).foldl (frame c.most n) (cs.filter λx=>decide (n-x.opened<=c.timeout)))).1;unfold take;simp only[aS];omega
def much(chain:List X2)(n:Nat)(s:St):Nat:=4096*s.chs.length+s.wait.length+s.log.length+(n-(s.log.getLastD default).epoch)+((chain[n]!).time-(s.log.getLastD default).time).toNat
structure Fit(c:Cf)(chain:List X2)(k:Nat)(s:St):Prop where
 some:s.log≠[]
 epoch:(s.log.getLastD default).epoch<=k-1
 time:(s.log.getLastD default).time=(chain[0]!).time+c.step*((s.log.length-1:Nat):Int)
 number:(s.log.getLastD default).number+1=s.log.length
 much:much chain (k-1) s<=2+k*18186265
theorem uM{α:Type}[Inhabited α](a b:List α)(_:a≠[]):(a++b).getLastD default=(a.getLastD default::b).getLastD default:=by grind
theorem Ws{c:Cf}{chain:List X2}(J:jY chain=bB)(I:jP c=bB){k:Nat}(hk:k<chain.length){s:St}(h:Fit c chain k s):Fit c chain (k+1) (step c chain k s):=by
 have Y:=kU J;have ac:=take_len c _ k s.chs s.wait (oN chain Z Y.2.2.1 k hk);have q:=Bd c chain k J I hk (left chain k (s.log.getLastD default) (take c (chain[k]!) k s.chs s.wait).2+1) (s.log.getLastD default) (take c (chain[k]!) k s.chs s.wait).2 (by have:=h.epoch;omega);have hm:=h.much;have hs:=h.some;have aa:1<=s.log.length:=by cases hl:s.log with|nil=>exact Xs hl hs|cons=>simp
 have ht:=uw J (i:=k-1) (j:=k) aA hk;have ab:=h.number;have E:=h.time;unfold Dv.much at hm;unfold step;simp only;generalize hT:take c (chain[k]!) k s.chs s.wait=T at *;generalize hD:draws c chain k (left chain k (s.log.getLastD default) T.2+1) (s.log.getLastD default) T.2=D at *;simp only at q;obtain⟨d1,d2,d3,d4,d5⟩:=q;refine⟨?_,?_,?_,?_,?_⟩
 .simp[hs]
 .grind
 .grind
 .grind
 .unfold Dv.much;simp only[Nat.add_sub_cancel];rw[uM _ _ hs,aS]
  have:((chain[k]!).time-(s.log.getLastD default).time).toNat<=((chain[k-1]!).time-(s.log.getLastD default).time).toNat+24:=by
   obtain rfl|ae:=gQ k
   .simp
   .omega
  omega
theorem U9(c:Cf)(chain:List X2):Fit c chain 0 (start chain):=by refine⟨by simp[start],by simp[start,first],by simp[start,first],by simp[start,first],?_⟩;simp[much,start,first]
theorem vO{c:Cf}{chain:List X2}(E:jY chain=bB)(q:jP c=bB):∀k,k<=chain.length->Fit c chain k (gone c chain k)
 |0,_=>U9 c chain
 |k+1,hk=>Ws E q aA (vO E q k aA)
end
end Dv
