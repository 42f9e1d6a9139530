import Derived.Test.YtpibpdpedjinhaaGreatDoorP28
set_option maxRecDepth 100000
set_option maxHeartbeats 8000000
set_option linter.all false
open Bool renaming false->aL,true->bB
open Go renaming Value->aD,World->U,bodyPost_ret->cM
open Go.Addr renaming add->gR
open Go.IntKind renaming i64->X,u16->mE,u32->dE
open Go.Obj renaming cells->aG
open Go.Proofs.Tryz renaming results123->nt,underlying135->nF
open Go.Value renaming agg->gP,int->N,ownBlock->eA,pointer->aM,slice->aR,string->aH,tuple->dC
open Go.World renaming drewN->pw,setCells->oX
open Option renaming isSome_map->nQ,none->Z,some->M
namespace Go.Proofs.YtpibpdpedjinhaaGreatDoor
namespace Hm
open Go.RowKit Go.Joins Go.Shelf
open Fr (below_drewN)
open Dv (X2 Cf Ba)
section
variable {w w':U}{kb nb cnt ep sq e n:Nat}{c:Cf}{vu vo vw:aD}{us:List PB}{dl:Nat->List (List UInt8)}{ws:List PW}
def kX(w:U)(v:aD)(l:List (List UInt8)):Prop:=Row w 9 1 v l.length (l.map lM)
structure sD(w:U)(kb:Nat)(c:Cf)(vu:aD)(us:List PB)(dl:Nat->List (List UInt8))(nb:Nat)(vo vw:aD)(ws:List PW)(cnt ep sq:Nat):Prop where
 obj:w.heap[kb]? =M (aG (jT c vu nb vo vw cnt ep sq) 137 (0,0))
 upper:Row w 139 3 vu us.length (us.flatMap qW)
 wait:Row w 150 5 vw ws.length (ws.flatMap lS)
 deps:∀(j:Nat)(p:PB),us[j]? =M p->kX w p.2.2 (dl j)
 txs:∀p,p∈ws->kX w p.2 p.1.txs
structure Ac(c:Cf)(us:List PB)(ws:List PW)(cnt ep:Nat):Prop where
 times:∀p,p∈us->0<=p.2.1/\p.2.1<=4294967296
 step:0<=c.step/\c.step<=20
 drift:0<=c.drift/\c.drift<=100
 window:0<=c.window/\c.window<=8
 cnt:cnt<4294967296
 len:us.length<=4294967296
 wlen:ws.length<=4294967296
 ep:ep<us.length
 batch:∀p,p∈ws->p.1.epoch<us.length/\p.1.place<=4294967296
theorem sD.jR{XS:Nat->Prop}(h:sD w kb c vu us dl nb vo vw ws cnt ep sq)(I:jO XS w w')(h1:¬XS kb)(h2:∀g,vu.ownBlock=M g->¬XS g)(h3:∀g,vw.ownBlock=M g->¬XS g)(h4:∀(g:Nat)(cs:Array aD)(Y:Nat×Nat),w.heap[g]? =M (aG cs 9 Y)->¬XS g):sD w' kb c vu us dl nb vo vw ws cnt ep sq:=
 ⟨(I.block _ (jG h.obj) h1).trans h.obj,h.upper.jR I h2,h.wait.jR I h3,λj p hp=>Row.jR (h.deps j p hp) I (λg J=>by obtain⟨E,q⟩:=Row.obj (h.deps j p hp) J;exact h4 g E _ q),λp hp=>Row.jR (h.txs p hp) I (λg J=>by obtain⟨E,q⟩:=Row.obj (h.txs p hp) J;exact h4 g E _ q)⟩
theorem sD.below(h:sD w kb c vu us dl nb vo vw ws cnt ep sq)(q:Below w.heap.size w w'):sD w' kb c vu us dl nb vo vw ws cnt ep sq:=h.jR (.below q jE (λ_=>False)) (λe=>e) (λ_ _ e=>e) (λ_ _ e=>e) (λ_ _ _ _ e=>e)
theorem sD.look(h:sD w kb c vu us dl nb vo vw ws cnt ep sq)(s:Ac c us ws cnt ep):Look w kb c us cnt ep:=
 ⟨⟨vu,nb,vo,vw,sq,h.obj,h.upper.rd⟩,s.times,s.step,s.drift,s.window,jv s.cnt,s.len⟩
theorem jJ{I s:Nat}{v:aD}{xs:List aD}(h:Row w e s v n xs){k:Nat}{cs:Array aD}{J:Nat×Nat}(hk:w.heap[k]? =M (aG cs I J))(q:I≠e):v.ownBlock≠M k:=λhg=>by
 obtain⟨Y,E⟩:=h.obj hg;rw[hk]at E;simp at E;exact q E.2.1
section
variable {P:Program}(w:U){ops:Array Oper}{rest:List Oper}{o:Oper}{a:Act}{Q:Exit->Act->U->Prop}
theorem lY(Y:o.guard=Z)(s x:Operand)(t:TypeId)(ho:o.op=.call { callee:=.builtin .append,args:=#[s,x],argTypes:=#[t,t] })(e:TypeId)(i:TypeInfo)(size:Nat)(ht:P.underlying t=M (.slice e))(hi:P.info? e=M i)(E:i.size=size)(b off n cap:Nat)(hs:a.eval s=aR (M ⟨b,off,Z⟩) n cap)(ad:Addr)(m c:Nat)(q:List aD)(hx:a.eval x=aR (M ad) m c)(hl:q.length=m*size)(J:∀j u,q[j]? =M u->w.cell? (ad.add j)=M u)(h1:∀u∈q,u.oneCell'=bB)(I:n+m<=cap)(hc:∀j,j<q.length->(w.cell? ⟨b,off+n*size+j,Z⟩).isSome=bB)(hf:∀j,w.frozen? ⟨b,j,Z⟩=aL)(hK:wpList P ops Q rest (a.put o.dst (aR (M ⟨b,off,Z⟩) (n+m) cap)) (w.setCells b (off+n*size) q)):wpList P ops Q (o::rest) a w:=by
 refine wpList_plain Y λK aa=>?_;subst E;have hr:=run_append_room_cells (P:=P) w t o.type e i ht hi b off n cap ad m c q hl J h1 I hc (λj _=>hf _);unfold Oper.wp execOp;simp only[ho,resolve,invoke,builtin,iZ,Sem.run_pure,iy,fQ,eP,fP,hs,hx,hr];exact aa _ _ hK
end
theorem Df:(PQ.info? 150).map (λi=>(i.zero,i.size,i.bytes))=M (M (gP #[N X 0,N X 0,N X 0,aR Z 0 0,N X 0]),5,56):=XN
def ac4(w:U)(R:Nat)(a b c d e:aD):U:=((((w.setCell ⟨R,0,Z⟩ a).setCell ⟨R,1,Z⟩ b).setCell ⟨R,2,Z⟩ c).setCell ⟨R,3,Z⟩ d).setCell ⟨R,4,Z⟩ e
theorem qZ(w:U)(R:Nat)(a b c d e:aD):jO (λk=>k=R) w (ac4 w R a b c d e):=
 ((((jO.set w R 0 a).trans (jO.set _ R 1 b) (λ_ _ e=>e)).trans (jO.set _ R 2 c) (λ_ _ e=>e)).trans (jO.set _ R 3 d) (λ_ _ e=>e)).trans (jO.set _ R 4 e) (λ_ _ e=>e)
theorem qX{Wa:U}{q:aD}{ws':List PW}{R:Nat}(ho:Wa.heap[kb]? =M (aG (jT c vu nb vo vw cnt ep sq) 137 (0,0)))(hu:Row Wa 139 3 vu us.length (us.flatMap qW))(hd:∀(j:Nat)(p:PB),us[j]? =M p->kX Wa p.2.2 (dl j))(hr:Row Wa 150 5 q ws'.length (ws'.flatMap lS))(ht:∀p,p∈ws'->kX Wa p.2 p.1.txs){rc:Array aD}(hR:Wa.heap[R]? =M (aG rc 150 (0,0)))(I:q.ownBlock≠M R)(x0 x1 x2 x3 x4:aD):sD (ac4 (Wa.setCell ⟨kb,10,Z⟩ q) R x0 x1 x2 x3 x4) kb c vu us dl nb vo q ws' cnt ep sq:=by
 have J:kb≠R:=λe=>by rw[e,hR]at ho;simp at ho
 have E:=jO.set Wa kb 10 q
 have h1:sD (Wa.setCell ⟨kb,10,Z⟩ q) kb c vu us dl nb vo q ws' cnt ep sq:=by
  refine⟨?_,hu.jR E (λg I e=>jJ hu ho aB (by rw[I,e])),hr.jR E (λg I e=>jJ hr ho aB (by rw[I,e])),λj p hp=>Row.jR (hd j p hp) E (λg I e=>jJ (hd j p hp) ho aB (by rw[I,e])),λp hp=>Row.jR (ht p hp) E (λg I e=>jJ (ht p hp) ho aB (by rw[I,e]))⟩;have:=jV ho 10 q;simpa[jT]using this
 have aa:(Wa.setCell ⟨kb,10,Z⟩ q).heap[R]? =M (aG rc 150 (0,0)):=(aW _ _ _ _ (λe=>J e.symm)).trans hR;refine h1.jR (qZ _ R x0 x1 x2 x3 x4) J (λg I e=>jJ h1.upper aa aB (by rw[I,e])) (λg ab e=>I (by rw[ab,e])) (λg cs fz Y e=>?_);rw[e,aa]at Y;simp at Y
theorem Es(h:∀p,p∈ws->kX w p.2 p.1.txs):∀u,u∈ws.flatMap lS->u.oneCell'=bB:=λu E=>by
 obtain⟨p,hp,q⟩:=List.mem_flatMap.1 E;obtain⟨a,cap,e⟩:=Row.slice (h p hp);unfold lS at q;rw[e]at q;simp at q;rcases q with rfl|rfl|rfl|rfl|rfl<;>rfl
theorem DR{g off cap:Nat}{rs:List PW}(h:Row w e 5 (aR (M ⟨g,off,Z⟩) n cap) n (rs.flatMap lS))(i:Nat):∀j u,((rs.drop i).flatMap lS)[j]? =M u->w.cell? ((⟨g,off+i*5,Z⟩:Addr).add j)=M u:=λj u q=>by
 rw[<-(qN lS 5 nC rs i).2,jd]at q;have:=h.cell rfl _ u q;rw[<-dV]at this;unfold gR;split
 .rename_i E;subst E;exact this
 .exact this
def zQ(o:Nat×Option PW):aD:=match o.2 with
 |some b=>dC #[QE b.1 b.2,N .u8 o.1]
 |none=>dC #[gP #[N X 0,N X 0,N X 0,aR Z 0 0,N X 0],N .u8 o.1]
def judged(c:Cf)(us:List PB)(cnt ep:Nat)(b:PW):Nat:=verdict c us cnt ep b.1 b.1.txs.length
theorem Qz(kb:Nat)(c:Cf)(vu:aD)(us:List PB)(dl:Nat->List (List UInt8))(nb:Nat)(vo vw:aD)(ws:List PW)(cnt ep sq:Nat)(w:U)(h:sD w kb c vu us dl nb vo vw ws cnt ep sq)(s:Ac c us ws cnt ep):Calls PQ 123 #[aM (M ⟨kb,0,Z⟩)] w λe w'=>e=.returned (zQ (pick (judged c us cnt ep) ws).1)/\∃bb,sD w' kb c vu us dl nb vo bb (pick (judged c us cnt ep) ws).2 cnt ep sq/\(∀g,bb.ownBlock=M g->vw.ownBlock=M g)/\jO (λk=>k=kb\/vw.ownBlock=M k) w w':=by
 obtain⟨W,hW,Y,ro⟩:=jI w #[N X 0,N X 0,N X 0,aR Z 0 0,N X 0] 150;have hD:=h.below Y;have c10:W.cell? ⟨kb,10,Z⟩=M vw:=nV hD.obj rfl;have fk:=aQ hD.obj;have b1:=(jG hD.obj)
 have b9:=(jG h.obj)
 obtain⟨rfl,a7⟩|⟨g,off,cap,b8,rfl,bm,cd,cb,_,_⟩:=h.wait.2
 .obtain rfl:=bP a7;obtain⟨r0,r1,r2,r3,r4⟩:=cells5 ro;have fr:=aQ ro;have bs:kb≠w.heap.size:=by omega
  have H:Hid _:=jD hD (jD Y ro);clear hD Y ro h s a7;go_enter (fq Tryz.func123 rfl),Tryz.ntmps123;go_upto_region 1 with fail;rw[<-hW];clear hW;go_wp2_with fail;go_loopg [4,5,6,7,18] 0 (λgg v4 _ _ _ a4 wx=>v4=aR Z 0 0/\a4=N X 0/\wx=W)
  case atStart=>exact⟨rfl,rfl,rfl⟩
  case round=>
   obtain⟨rfl,rfl,rfl⟩:=hrel;go_wp2_with fail;obtain⟨hD,Y,ro⟩:=H.out;refine cM (v:=dC #[.agg _,.int _ 0]) (by simp[results,nt,go_sem,r0,r1,r2,r3,r4]) rfl ⟨rfl,_,?_,λg hg=>hg,?_⟩
   .exact qX hD.obj hD.upper hD.deps hD.wait hD.txs ro (by simp[eA]) _ _ _ _ _
   .exact((jO.below Y jE _).trans (jO.set _ kb 10 _) (λk _ e=>.inl e)).trans (qZ _ _ _ _ _ _ _) (λk hk e=>aA)
 .have ca:=(jG bm)
  have bu:kb≠g:=λe=>jJ h.wait h.obj aB (by rw[e];rfl);have ce:=s.wlen;have b2:(0:Int)<=(cap:Int):=aA
  have b5:(ws.length:Int)<=cap:=aA
  obtain⟨V,hV⟩:∃V,V=judged c us cnt ep:=⟨_,rfl⟩
  rw[<-hV]
  have stay:∀Wa,jO (λk=>k=g) W Wa->Wa.heap[kb]? =M (aG (jT c vu nb vo (aR (M ⟨g,off,Z⟩) ws.length cap) cnt ep sq) 137 (0,0))/\Row Wa 139 3 vu us.length (us.flatMap qW)/\(∀(j:Nat)(p:PB),us[j]? =M p->kX Wa p.2.2 (dl j))/\(∀p,p∈ws->kX Wa p.2 p.1.txs)/\Wa.heap[w.heap.size]? =M (aG #[N X 0,N X 0,N X 0,aR Z 0 0,N X 0] 150 (0,0)):=λWa hX=>by
   obtain⟨gc,ax⟩:=hD.wait.obj (g:=g) rfl;refine⟨(hX.block _ b1 bu).trans hD.obj,hD.upper.jR hX (λq hq e=>jJ hD.upper ax aB (by rw[hq,e])),λj p hp=>Row.jR (hD.deps j p hp) hX (λq hq e=>jJ (hD.deps j p hp) ax aB (by rw[hq,e])),λp hp=>Row.jR (hD.txs p hp) hX (λq hq e=>jJ (hD.txs p hp) ax aB (by rw[hq,e])),(hX.block _ (jG ro) aA).trans ro⟩
  obtain⟨i0,bg,bx,bj,b0⟩:=info_parts Df;have Hi:Hid _:=jD bg bj;have H:Hid _:=jD hD (jD Y (jD ro (jD s (jD stay (jD hV h)))));clear hD Y ro h s bm stay hV bg bx bj b0;go_enter (fq Tryz.func123 rfl),Tryz.ntmps123;go_upto_region 1 with fail;rw[<-hW];clear hW;go_wp2_with fail;go_loopg [4,5,6,7,18] ws.length (λgg v4 _ _ _ a4 wx=>∃(i m:Nat)(rs:List PW),a4=N X i/\v4=aR (M ⟨g,off,Z⟩) m cap/\gg=ws.length-i/\m<=i/\i<=ws.length/\Hid (lN V ws rs m i/\Row wx 150 5 (aR (M ⟨g,off,Z⟩) ws.length cap) ws.length (rs.flatMap lS)/\jO (λk=>k=g) W wx))
  case atStart=>exact⟨0,0,ws,rfl,rfl,rfl,jE,dL _,lN.start V ws,H.out.1.wait,jO.refl _ _⟩
  case round=>
   obtain⟨i,m,rs,rfl,rfl,rfl,cc,b6,HI⟩:=hrel;clear c10 fk;obtain⟨q1,q2,q3,q4,q5⟩:=H.out.2.2.2.2.1 wr HI.out.2.2;have c10:wr.cell? ⟨kb,10,Z⟩=M (aR (M ⟨g,off,Z⟩) ws.length cap):=nV q1 rfl;have fk:=aQ q1;have fr:=aQ q5;obtain⟨r0,r1,r2,r3,r4⟩:=cells5 q5;have bs:kb≠w.heap.size:=aA
   by_cases bw:i<ws.length
   .have bh:(i:Int)<ws.length:=by omega
    obtain⟨b,hb⟩:∃b,ws[i]? =M b:=⟨_,aO bw⟩
    obtain⟨p1,p2,p3⟩:=HI.out;have bk:=p1.at hb;have ar:=aX hb;obtain⟨va,vc,a1⟩:=Row.slice (q4 b ar);have kk:=λj u (I:j<5) (hu:(lS b)[j]? =M u)=>p2.cell rfl (i*5+j) u (by rw[flat_get lS 5 nC rs i j b bk I];exact hu);have k0:wr.cell? ⟨g,off+i*5,Z⟩=M (N X b.1.epoch):=by have:=kk 0 _ aA rfl;exact this
    have k1:wr.cell? ⟨g,off+i*5+1,Z⟩=M (N X b.1.id):=by have:=kk 1 _ aA rfl;rw[<-dV]at this;exact this
    have k2:wr.cell? ⟨g,off+i*5+2,Z⟩=M (N X b.1.time):=by have:=kk 2 _ aA rfl;rw[<-dV]at this;exact this
    have k3:wr.cell? ⟨g,off+i*5+3,Z⟩=M (.slice va b.1.txs.length vc):=by have:=kk 3 _ aA rfl;rw[<-dV,a1]at this;exact this
    have k4:wr.cell? ⟨g,off+i*5+4,Z⟩=M (N X b.1.place):=by have:=kk 4 _ aA rfl;rw[<-dV]at this;exact this
    obtain⟨W2,a8,az,yo⟩:=jI wr #[N X b.1.epoch,N X b.1.id,N X b.1.time,.slice va b.1.txs.length vc,N X b.1.place] 150;obtain⟨y0,y1,y2,y3,y4⟩:=cells5 yo;have ay:=p3.trans (.below az jE (λ_=>False)) (λ_ _ e=>e.elim);obtain⟨s1,s2,s3,s4,s5⟩:=H.out.2.2.2.2.1 W2 ay;have sn:=H.out.2.2.2.1;have bo:Look W2 kb c us cnt ep:=⟨⟨vu,nb,vo,_,sq,s1,s2.rd⟩,sn.times,sn.step,sn.drift,sn.window,jv sn.cnt,sn.len⟩
    have ap:=UH kb c us cnt ep _ va b.1.txs.length vc W2 bo sn.ep (sn.batch b ar).1 (sn.batch b ar).2 (λp hp=>by
     obtain⟨j,I⟩:=List.getElem?_of_mem hp;obtain⟨x,y,bz⟩:=Row.slice (s3 j p I);exact⟨x,_,y,bz⟩)
    have a3:verdict c us cnt ep b.1 b.1.txs.length=V b:=by rw[H.out.2.2.2.2.2.1];rfl
    rw[a3]at ap;unfold QE at ap
    have a5:V b=0\/V b=1\/V b=2\/V b=3:=by
     rw[<-a3];unfold verdict;split
     .simp
     .split
      .simp
      .split
       .simp
       .split<;>simp
    obtain⟨vb,a2⟩:∃vb,V b=vb:=⟨_,rfl⟩
    rw[a2]at ap a5;have au:Hid _:=λ(_:Unit)=>ap;have HB:Hid _:=jD hb (jD ar (jD a1 (jD az (jD yo (jD ay a2)))));clear q1 q2 q3 q4 q5 p1 p2 p3 bk hb ar a1 kk az yo ay s1 s2 s3 s4 s5 sn bo ap a3 a2
    have behind:∀w3,Below W2.heap.size W2 w3->jO (λk=>k=g) W w3/\Row w3 150 5 (aR (M ⟨g,off,Z⟩) ws.length cap) ws.length (rs.flatMap lS)/\w3.heap[wr.heap.size]? =M (aG #[N X b.1.epoch,N X b.1.id,N X b.1.time,.slice va b.1.txs.length vc,N X b.1.place] 150 (0,0)):=λw3 ae=>
     ⟨HB.out.2.2.2.2.2.1.trans (.below ae jE (λ_=>False)) (λ_ _ e=>e.elim),(HI.out.2.1.below HB.out.2.2.2.1).below ae,(ae.block _ (jG HB.out.2.2.2.2.1)).trans HB.out.2.2.2.2.1⟩
    have aa:Hid _:=behind;clear behind;go_upto_region 5 with fail;rw[<-a8];clear a8;obtain rfl|rfl|rfl|rfl:=a5
    .go_upto_region 8 with(first|(go_at_call 179;refine aT (au.out ()) ?_;rintro e w3 ⟨rfl,ae⟩)|go_in)
     obtain⟨e1,e2,e3⟩:=aa.out w3 ae;obtain⟨x0,x1,x2,x3,x4⟩:=cells5 e3;have ao:=λo=>e2.below ((aJ _ w3).alloc jE o);have ah:Hid _:=jD ao e1;clear e1 e2 e3 ao k0 k1 k2 k3 k4 y0 y1 y2 y3 y4;go_wp2_with (first|(at_builtin;refine lY _ rfl (.tmp 29) (.tmp 31) 135 rfl 150 i0 5 (uq nF) Hi.out.1 Hi.out.2 g off m cap rfl _ 1 1 [N X b.1.epoch,N X b.1.id,N X b.1.time,.slice va b.1.txs.length vc,N X b.1.place] rfl rfl (by intro j u I;match j,I with|0,I=>(simp at I;subst I;simp[gR])|1,I=>(simp at I;subst I;simp[gR])|2,I=>(simp at I;subst I;simp[gR])|3,I=>(simp at I;subst I;simp[gR])|4,I=>(simp at I;subst I;simp[gR])) (by intro u hu;simp at hu;rcases hu with rfl|rfl|rfl|rfl|rfl<;>rfl) aA (by intro j I;(have a6:j<5:=I);have:=(ah.out.1 (aG #[N X b.1.epoch,N X b.1.id,N X b.1.time,.slice va b.1.txs.length vc,N X b.1.place] 150)).there (j:=m*5+j) aA;rw[<-dV]at this;exact this) (by intro j;exact(ah.out.1 _).frozen rfl j) ?_)|go_in)
     go_roundg (ws.length-(i+1))
     case measure=>omega
     case rel=>
      refine⟨_,_,_,by go_num,rfl,rfl,aA,aA,HI.out.1.stay HB.out.1 HB.out.2.2.2.2.2.2,?_,?_⟩
      .have:=Row.ad2 lS 5 nC (ah.out.1 (aG #[N X b.1.epoch,N X b.1.id,N X b.1.time,.slice va b.1.txs.length vc,N X b.1.place] 150)) (m:=m) (by rw[HI.out.1.len];omega) b;unfold lS at this⊢;rw[HB.out.2.2.1]at this;exact this
      .exact(ah.out.2.trans (jO.alloc (λ_=>False) w3 _) (λ_ _ e=>e.elim)).trans (.grown (kT g _ _ _).1) (λk _ e=>by simpa using e.symm)
    .go_wp2_with (first|(go_at_call 179;refine aT (au.out ()) ?_;rintro e w3 ⟨rfl,ae⟩)|go_in)
     go_roundg (ws.length-(i+1))
     case measure=>omega
     case rel=>
      obtain⟨e1,e2,e3⟩:=aa.out w3 ae;exact⟨_,m,rs,by go_num,rfl,rfl,aA,aA,HI.out.1.go HB.out.1 (by rw[HB.out.2.2.2.2.2.2];omega) (by rw[HB.out.2.2.2.2.2.2];omega) (by rw[HB.out.2.2.2.2.2.2];omega),e2,e1⟩
    .go_upto_region 10 with(first|(go_at_call 179;refine aT (au.out ()) ?_;rintro e w3 ⟨rfl,ae⟩)|go_in)
     obtain⟨e1,e2,e3⟩:=aa.out w3 ae;obtain⟨s1,s2,s3,s4,s5⟩:=H.out.2.2.2.2.1 w3 e1;have bq:w3.cell? ⟨kb,10,Z⟩=M (aR (M ⟨g,off,Z⟩) ws.length cap):=nV s1 rfl;have af:=Es (λp hp=>s4 p (HI.out.1.sub p (ji hp))) (ws:=rs.drop i);have am:=DR e2 i;have aj:(rs.drop i).length=ws.length-i:=by rw[dW,HI.out.1.len]
     have an:((rs.drop i).flatMap lS).length=(ws.length-i)*5:=by rw[oG lS 5 nC,aj]
     obtain⟨ab,J⟩:∃ab,ab=(rs.drop i).flatMap lS:=⟨_,rfl⟩
     rw[<-J]at af am an;have Hn:Hid _:=jD af (jD am (jD an (jD J (jD e2 (jD e1 aj)))));have bv:(i:Int)<=ws.length:=aA
     have b7:¬(i=cap):=aA
     have b4:(i:Int)<=cap:=aA
     clear e1 e2 e3 s1 s2 s3 s4 s5 af am an J aj k0 k1 k2 k3 k4 y0 y1 y2 y3 y4 c10 r0 r1 r2 r3 r4 fk fr;go_wp2_with (first|(at_builtin;refine lY _ rfl (.tmp 36) (.tmp 42) 135 rfl 150 i0 5 (uq nF) Hi.out.1 Hi.out.2 g off m cap rfl _ _ _ ab rfl Hn.out.2.2.1 Hn.out.2.1 Hn.out.1 aA (by intro j I;(have a6:j<(ws.length-i)*5:=(by rw[<-Hn.out.2.2.1];exact I));have:=Hn.out.2.2.2.2.1.there (j:=m*5+j) aA;rw[<-dV]at this;exact this) (by intro j;exact Hn.out.2.2.2.2.1.frozen rfl j) ?_;generalize hX:oX _ _ _ _=Wa;have E:jO (λk=>k=g) W Wa:=(by rw[<-hX];exact Hn.out.2.2.2.2.2.1.trans (.grown (kT g _ _ _).1) (λk _ e=>by simpa using e.symm));obtain⟨s1,s2,s3,s4,s5⟩:=H.out.2.2.2.2.1 Wa E;have bq:Wa.cell? ⟨kb,10,Z⟩=M (aR (M ⟨g,off,Z⟩) ws.length cap):=(by rw[aI s1];rfl);have fk:=aQ s1;have fr:=aQ s5;have r0:Wa.cell? ⟨w.heap.size,0,Z⟩=M (N X 0):=(by rw[aI s5];rfl);have r1:Wa.cell? ⟨w.heap.size,1,Z⟩=M (N X 0):=(by rw[aI s5];rfl);have r2:Wa.cell? ⟨w.heap.size,2,Z⟩=M (N X 0):=(by rw[aI s5];rfl);have r3:Wa.cell? ⟨w.heap.size,3,Z⟩=M (aR Z 0 0):=(by rw[aI s5];rfl);have r4:Wa.cell? ⟨w.heap.size,4,Z⟩=M (N X 0):=(by rw[aI s5];rfl);have HX:Hid _:=jD hX E;clear hX E s1 s2 s3 s4 s5)|go_in)
     obtain⟨hD,Y,ro,s,stay,hV,h⟩:=H.out;obtain⟨t1,t2,t3,t4,t5,t6,t7⟩:=Hn.out;obtain⟨hX,E⟩:=HX.out;obtain⟨s1,s2,s3,s4,s5⟩:=stay Wa E;have ag:=HI.out.1.halt HB.out.1 HB.out.2.2.2.2.2.2;have ac:=Row.Jp lS 5 nC t5 (k:=m) (rs.drop i) aA (by rw[t7];omega);rw[<-t4,hX,t7]at ac;have ai:(rs.take m++rs.drop i).length=m+(ws.length-i):=by rw[aS,bK,t7,HI.out.1.len,fZ aA]
     refine cM (v:=dC #[gP #[N X 0,N X 0,N X 0,aR Z 0 0,N X 0],N .u8 2]) (by simp[results,nt,go_sem,r0,r1,r2,r3,r4]) rfl ⟨by rw[ag];rfl,aR (M _) (m+(ws.length-i)) cap,?_,λq hq=>hq,?_⟩
     .rw[ag];refine qX s1 s2 s3 (by rw[ai];exact ac) (λp hp=>?_) s5 (by simp[eA];omega) _ _ _ _ _;obtain hp|hp:=dM.1 hp
      .exact s4 p (HI.out.1.sub p (jh hp))
      .exact s4 p (HI.out.1.sub p (ji hp))
     .exact((((jO.below Y jE _).trans E (λk _ e=>.inr (by rw[e];rfl))).trans (jO.set _ kb 10 _) (λk _ e=>.inl e)).trans (qZ _ _ _ _ _ _ _) (λk hk e=>aA))
    .go_upto_region 13 with(first|(go_at_call 179;refine aT (au.out ()) ?_;rintro e w3 ⟨rfl,ae⟩)|go_in)
     obtain⟨e1,e2,e3⟩:=aa.out w3 ae;obtain⟨s1,s2,s3,s4,s5⟩:=H.out.2.2.2.2.1 w3 e1;have bq:w3.cell? ⟨kb,10,Z⟩=M (aR (M ⟨g,off,Z⟩) ws.length cap):=nV s1 rfl;have af:=Es (λp hp=>s4 p (HI.out.1.sub p (ji hp))) (ws:=rs.drop (i+1));have am:=DR e2 (i+1);have aj:(rs.drop (i+1)).length=ws.length-(i+1):=by rw[dW,HI.out.1.len]
     have an:((rs.drop (i+1)).flatMap lS).length=(ws.length-(i+1))*5:=by rw[oG lS 5 nC,aj]
     obtain⟨ab,J⟩:∃ab,ab=(rs.drop (i+1)).flatMap lS:=⟨_,rfl⟩
     rw[<-J]at af am an;have a9:=(jG e3)
     have bl:wr.heap.size≠g:=by
      have h1:=HI.out.2.1.lt (g:=g) rfl;omega
     have Hn:Hid _:=jD af (jD am (jD an (jD J (jD e2 (jD e1 (jD aj (jD e3 ae)))))));have bv:(i:Int)+1<=(ws.length:Int):=aA
     have b4:(i:Int)+1<=(cap:Int):=aA
     clear e1 e2 e3 s1 s2 s3 s4 s5 af am an J aj k0 k1 k2 k3 k4 y0 y1 y2 y3 y4 c10 r0 r1 r2 r3 r4 fk fr;by_cases br:i+1=cap
     .have ba:ws.length-(i+1)=0:=by omega
      have av:ab=[]:=bP (by rw[Hn.out.2.2.1,ba]);have aq:Hid _:=av;clear ba av;subst br;go_wp2_with (first|(at_builtin;refine lY _ rfl (.tmp 50) (.tmp 57) 135 rfl 150 i0 5 (uq nF) Hi.out.1 Hi.out.2 g off m _ rfl _ 0 0 ab rfl (by rw[aq.out];rfl) (by intro j u I;rw[aq.out]at I;simp at I) Hn.out.1 aA (by intro j I;rw[aq.out]at I;simp at I) (by intro j;exact Hn.out.2.2.2.2.1.frozen rfl j) ?_;generalize hX:oX _ _ _ _=Wa;have ak:jO (λk=>k=g) w3 Wa:=(by rw[<-hX];exact(jO.grown (kT g _ _ _).1).mono (λk _ e=>by simpa using e.symm));have E:=Hn.out.2.2.2.2.2.1.trans ak (λ_ _ e=>e);obtain⟨s1,s2,s3,s4,s5⟩:=H.out.2.2.2.2.1 Wa E;have b3:=(ak.block _ a9 bl).trans Hn.out.2.2.2.2.2.2.2.1;have x0:Wa.cell? ⟨wr.heap.size,0,Z⟩=M (N X b.1.epoch):=(by rw[aI b3];rfl);have x1:Wa.cell? ⟨wr.heap.size,1,Z⟩=M (N X b.1.id):=(by rw[aI b3];rfl);have x2:Wa.cell? ⟨wr.heap.size,2,Z⟩=M (N X b.1.time):=(by rw[aI b3];rfl);have x3:Wa.cell? ⟨wr.heap.size,3,Z⟩=M (.slice va b.1.txs.length vc):=(by rw[aI b3];rfl);have x4:Wa.cell? ⟨wr.heap.size,4,Z⟩=M (N X b.1.place):=(by rw[aI b3];rfl);have bd:Wa.cell? ⟨kb,10,Z⟩=M (aR (M ⟨g,off,Z⟩) ws.length (i+1)):=(by rw[aI s1];rfl);have fk:=aQ s1;have fr:=aQ s5;have r0:Wa.cell? ⟨w.heap.size,0,Z⟩=M (N X 0):=(by rw[aI s5];rfl);have r1:Wa.cell? ⟨w.heap.size,1,Z⟩=M (N X 0):=(by rw[aI s5];rfl);have r2:Wa.cell? ⟨w.heap.size,2,Z⟩=M (N X 0):=(by rw[aI s5];rfl);have r3:Wa.cell? ⟨w.heap.size,3,Z⟩=M (aR Z 0 0):=(by rw[aI s5];rfl);have r4:Wa.cell? ⟨w.heap.size,4,Z⟩=M (N X 0):=(by rw[aI s5];rfl);have HX:Hid _:=jD hX E;clear hX E s1 s2 s3 s4 s5 b3 ak)|go_in)
      obtain⟨hD,Y,ro,s,stay,hV,h⟩:=H.out;obtain⟨t1,t2,t3,t4,t5,t6,t7,t8,t9⟩:=Hn.out;obtain⟨hX,E⟩:=HX.out;obtain⟨s1,s2,s3,s4,s5⟩:=stay Wa E;have ag:=HI.out.1.got HB.out.1 HB.out.2.2.2.2.2.2;have ac:=Row.Jp lS 5 nC t5 (k:=m) (rs.drop (i+1)) aA (by rw[t7];omega);rw[<-t4,hX,t7,show ws.length-(i+1)=0 from by omega]at ac;have ai:(rs.take m++rs.drop (i+1)).length=m+0:=by rw[aS,bK,t7,HI.out.1.len,fZ aA];omega
      refine cM (v:=dC #[gP #[N X b.1.epoch,N X b.1.id,N X b.1.time,.slice va b.1.txs.length vc,N X b.1.place],N .u8 3]) (by simp[results,nt,go_sem,r0,r1,r2,r3,r4]) rfl ⟨by rw[ag];unfold zQ QE;dsimp only;rw[HB.out.2.2.1];rfl,aR (M _) (m+0) (i+1),?_,λq hq=>hq,?_⟩
      .rw[ag];refine qX s1 s2 s3 (by rw[ai];exact ac) (λp hp=>?_) s5 (by simp[eA];omega) _ _ _ _ _;obtain hp|hp:=dM.1 hp
       .exact s4 p (HI.out.1.sub p (jh hp))
       .exact s4 p (HI.out.1.sub p (ji hp))
      .exact((((jO.below Y jE _).trans E (λk _ e=>.inr (by rw[e];rfl))).trans (jO.set _ kb 10 _) (λk _ e=>.inl e)).trans (qZ _ _ _ _ _ _ _) (λk hk e=>aA))
     .go_wp2_with (first|(at_builtin;refine lY _ rfl (.tmp 50) (.tmp 57) 135 rfl 150 i0 5 (uq nF) Hi.out.1 Hi.out.2 g off m cap rfl _ _ _ ab rfl Hn.out.2.2.1 Hn.out.2.1 Hn.out.1 aA (by intro j I;(have a6:j<(ws.length-(i+1))*5:=(by rw[<-Hn.out.2.2.1];exact I));have:=Hn.out.2.2.2.2.1.there (j:=m*5+j) aA;rw[<-dV]at this;exact this) (by intro j;exact Hn.out.2.2.2.2.1.frozen rfl j) ?_;generalize hX:oX _ _ _ _=Wa;have ak:jO (λk=>k=g) w3 Wa:=(by rw[<-hX];exact(jO.grown (kT g _ _ _).1).mono (λk _ e=>by simpa using e.symm));have E:=Hn.out.2.2.2.2.2.1.trans ak (λ_ _ e=>e);obtain⟨s1,s2,s3,s4,s5⟩:=H.out.2.2.2.2.1 Wa E;have b3:=(ak.block _ a9 bl).trans Hn.out.2.2.2.2.2.2.2.1;have x0:Wa.cell? ⟨wr.heap.size,0,Z⟩=M (N X b.1.epoch):=(by rw[aI b3];rfl);have x1:Wa.cell? ⟨wr.heap.size,1,Z⟩=M (N X b.1.id):=(by rw[aI b3];rfl);have x2:Wa.cell? ⟨wr.heap.size,2,Z⟩=M (N X b.1.time):=(by rw[aI b3];rfl);have x3:Wa.cell? ⟨wr.heap.size,3,Z⟩=M (.slice va b.1.txs.length vc):=(by rw[aI b3];rfl);have x4:Wa.cell? ⟨wr.heap.size,4,Z⟩=M (N X b.1.place):=(by rw[aI b3];rfl);have bd:Wa.cell? ⟨kb,10,Z⟩=M (aR (M ⟨g,off,Z⟩) ws.length cap):=(by rw[aI s1];rfl);have fk:=aQ s1;have fr:=aQ s5;have r0:Wa.cell? ⟨w.heap.size,0,Z⟩=M (N X 0):=(by rw[aI s5];rfl);have r1:Wa.cell? ⟨w.heap.size,1,Z⟩=M (N X 0):=(by rw[aI s5];rfl);have r2:Wa.cell? ⟨w.heap.size,2,Z⟩=M (N X 0):=(by rw[aI s5];rfl);have r3:Wa.cell? ⟨w.heap.size,3,Z⟩=M (aR Z 0 0):=(by rw[aI s5];rfl);have r4:Wa.cell? ⟨w.heap.size,4,Z⟩=M (N X 0):=(by rw[aI s5];rfl);have HX:Hid _:=jD hX E;clear hX E s1 s2 s3 s4 s5 b3 ak)|go_in)
      obtain⟨hD,Y,ro,s,stay,hV,h⟩:=H.out;obtain⟨t1,t2,t3,t4,t5,t6,t7,t8,t9⟩:=Hn.out;obtain⟨hX,E⟩:=HX.out;obtain⟨s1,s2,s3,s4,s5⟩:=stay Wa E;have ag:=HI.out.1.got HB.out.1 HB.out.2.2.2.2.2.2;have ac:=Row.Jp lS 5 nC t5 (k:=m) (rs.drop (i+1)) aA (by rw[t7];omega);rw[<-t4,hX,t7]at ac;have ai:(rs.take m++rs.drop (i+1)).length=m+(ws.length-(i+1)):=by rw[aS,bK,t7,HI.out.1.len,fZ aA]
      refine cM (v:=dC #[gP #[N X b.1.epoch,N X b.1.id,N X b.1.time,.slice va b.1.txs.length vc,N X b.1.place],N .u8 3]) (by simp[results,nt,go_sem,r0,r1,r2,r3,r4]) rfl ⟨by rw[ag];unfold zQ QE;dsimp only;rw[HB.out.2.2.1];rfl,aR (M _) (m+(ws.length-(i+1))) cap,?_,λq hq=>hq,?_⟩
      .rw[ag];refine qX s1 s2 s3 (by rw[ai];exact ac) (λp hp=>?_) s5 (by simp[eA];omega) _ _ _ _ _;obtain hp|hp:=dM.1 hp
       .exact s4 p (HI.out.1.sub p (jh hp))
       .exact s4 p (HI.out.1.sub p (ji hp))
      .exact((((jO.below Y jE _).trans E (λk _ e=>.inr (by rw[e];rfl))).trans (jO.set _ kb 10 _) (λk _ e=>.inl e)).trans (qZ _ _ _ _ _ _ _) (λk hk e=>aA))
   .have bh:¬(i:Int)<ws.length:=by omega
    clear q1 q2 q3 q4 q5;go_wp2_with fail;obtain⟨hD,Y,ro,s,stay,hV,h⟩:=H.out;obtain⟨p1,p2,p3⟩:=HI.out;obtain⟨q1,q2,q3,q4,q5⟩:=stay wr p3;have ag:=p1.done aA;rw[ag];have aj:=p1.len;have aw:=p2.take (k:=m) aA;rw[(qN lS 5 nC rs m).1]at aw;refine cM (v:=dC #[.agg _,.int _ 0]) (by simp[results,nt,go_sem,r0,r1,r2,r3,r4]) rfl ⟨rfl,aR (M _) m cap,?_,λq hq=>hq,?_⟩
    .refine qX q1 q2 q3 (by rw[bK,fZ aA];exact aw) (λp hp=>?_) q5 (by simp[eA];omega) _ _ _ _ _;exact q4 p (p1.sub p (jh hp))
    .exact((((jO.below Y jE _).trans p3 (λk _ e=>.inr (by rw[e];rfl))).trans (jO.set _ kb 10 _) (λk _ e=>.inl e)).trans (qZ _ _ _ _ _ _ _) (λk hk e=>aA))
end
end Hm
namespace Dv
open Fr (F)
section
variable {l:List F}{n:Nat}{c:Ch}{f:F}
theorem zD:∀{a b:List Nat},a.Nodup->(∀x,x∈a->x∈b)->a.length<=b.length
 |[],_,_,_=>dL _
 |x::a,b,hn,hs=>by
  have I:=hs x aC;have q:=iG.1 hn;have:=zD (a:=a) (b:=b.erase x) q.2 (λy E=>(List.mem_erase_of_ne (λ(e:y=x)=>q.1 (by rw[<-e];exact E))).2 (hs y (by simp[E])))
  grind
theorem UE{l:List Nat}(I:l.Nodup)(E:∀x,x∈l->x<=n):l.length=n+1↔∀k,k<n+1->k∈l:=by
 constructor
 .intro h k hk;refine gW λJ=>?_;have:=zD (b:=(List.range (n+1)).erase k) I (λx q=>(List.mem_erase_of_ne (λe=>J (by rw[<-e];exact q))).2 (gV.2 (by have:=E x q;omega)))
  grind
 .intro h;have Y:=zD (b:=List.range (n+1)) I (λx q=>gV.2 (by have:=E x q;omega));have h2:=zD (a:=List.range _) (b:=l) List.nodup_range (λx q=>h x (gV.1 q))
  grind
theorem FC:(has l n).isSome=bB↔n∈l.map (·.num):=by unfold has;simp
theorem wK{l:List F}:∀{k:Nat},(pX l k).isSome=bB↔∀n,n<k->n∈l.map (·.num)
 |0=>by simp[pX]
 |k+1=>by
  have I:=wK (l:=l) (k:=k);unfold pX;constructor
  .intro h n q;cases E:pX l k with
   |none=>simp[E]at h
   |some s=>
    simp only[E,gX,nQ]at h;obtain q|rfl:=jr (Nat.lt_succ_iff.1 q)
    .grind
    .exact FC.1 h
  .intro h;have J:=I.2 (λn q=>h n aA);have h2:=FC.2 (h k aA);obtain⟨s,hs⟩:=Option.isSome_iff_exists.1 J;simp[hs,h2]
structure Fine(l:List F):Prop where
 apart:(l.map (·.num)).Nodup
 upto:∀n,last l=M n->∀x,x∈l->x.num<=n
theorem L9:Fine []:=⟨aC,by simp[last]⟩
theorem Il(h:Fine l)(q:last l=M n):l.length=n+1↔(bytes l).isSome=bB:=by have:=UE (l:=l.map _) (n:=n) h.apart (λx I=>by obtain⟨y,E,rfl⟩:=bM.1 I;exact h.upto n q y E);rw[bC]at this;rw[this];unfold bytes;rw[q,gX];exact wK.symm
theorem LG(l:List F)(f:F):last (l++[f])=(last l).or (if f.last then M f.num else Z):=by
 unfold last
 grind
theorem NM(p:F->Bool)(h:∀x,x∈l->x.last=bB->p x=bB):last (l.filter p)=last l:=by
 induction l with
 |nil=>rfl
 |cons x l q=>
  have q:=q (λy E=>h y (by simp[E]));unfold last at q⊢
  grind
theorem GL:last l=Z↔∀x,x∈l->x.last=aL:=by unfold last;simp
theorem Ag(h:nU c f=aL):f.num∉c.l.map (·.num)/\c.spoilt=aL/\(∀n,last c.l=M n->f.last=aL/\f.num<=n):=by
 unfold nU at h;simp only[iw]at h;obtain⟨⟨q,h2⟩,h3⟩:=h;refine⟨λE=>?_,h2,λn I=>?_⟩
 .rw[FC.2 E]at q;cases q
 grind
theorem Dp(I:nU c f=aL):last (grown c f)=(last c.l).or (if f.last then M f.num else Z):=by
 obtain⟨h1,h2,h3⟩:=Ag I;unfold grown;rw[NM,LG];intro x E q;obtain E|E:=dM.1 E
 .unfold goes;cases Y:f.last
  .rfl
  .have J:last c.l=Z:=by
    cases hl:last c.l with
    |none=>rfl
    |some n=>grind
   rw[GL.1 J x E]at q;cases q
 .rw[dK.1 E];unfold goes;simp
theorem OQ(h:Fine c.l)(J:nU c f=aL):Fine (grown c f):=by
 obtain⟨h1,h2,h3⟩:=Ag J;have hl:=Dp J;refine⟨?_,λn q x Y=>?_⟩
 .unfold grown;refine(List.filter_sublist.map _).nodup ?_;rw[bJ];refine List.nodup_append.2 ⟨h.apart,aC,λa ha b aa e=>?_⟩
  grind
 .rw[hl]at q;unfold grown at Y;obtain⟨E,hg⟩:=fU.1 Y;cases I:last c.l with
  |some k=>
   rw[I]at q;simp at q;subst q;obtain E|E:=dM.1 E
   .exact h.upto k I x E
   grind
  |none=>
   rw[I]at q;simp only[Option.none_or]at q;cases hf:f.last
   .grind
   .rw[hf]at q;simp at q;subst q;unfold goes at hg
    grind
theorem size_append(l:List F)(f:F):size (l++[f])=size l+f.data.length:=by simp[size]
theorem size_filter_le(l:List F)(p:F->Bool):size (l.filter p)<=size l:=by
 induction l with
 |nil=>simp[size]
 |cons x l ih=>
  unfold size at ih⊢
  grind
theorem Ua{k:Nat}{s d:List UInt8}(h:pX l k=M s)(hd:has l k=M d):pX l (k+1)=M (s++d):=by simp[pX,h,hd]
end
end Dv
namespace Hm
open Go.RowKit Go.Joins
open Dv (Ch Fine)
open Fr (F below_drewN)
def Uj(b:Nat):aD:=aM (M ⟨b,0,Z⟩)
def KL(f:F):aD:=gP #[N dE f.chan,N mE f.num,aH ⟨f.data.toArray⟩,.bool f.last]
def vC(l:List F):AL:=l.map λf=>(f.num,KL f)
structure PC where
 blk:Nat
 fm:Option Nat
 ch:Ch
 size:Int
 ended:Bool
 last:Nat
def xI(o:PC):Obj:=aG #[N dE o.ch.name,N X o.ch.opened,.map o.fm,N X o.size,.bool o.ended,N mE o.last,.bool o.ch.spoilt] 201 (0,0)
def Small(l:List F):Prop:=∀x,x∈l->x.num<65536/\x.data.length<=65536
structure Sound(w:U)(o:PC):Prop where
 map:∃B,o.fm=M B/\lQ w B mE (vC o.ch.l)
 size:o.size=Dv.size o.ch.l
 room:Dv.size o.ch.l<=4294967296
 ended:o.ended=(Dv.last o.ch.l).isSome
 last:∀n,Dv.last o.ch.l=M n->o.last=n
structure ChanAt(w:U)(o:PC):Prop where
 obj:w.heap[o.blk]? =M (xI o)
 fine:Fine o.ch.l
 small:Small o.ch.l
 lastLt:o.last<65536
 sound:o.ch.spoilt=aL->Sound w o
 spoilt:o.ch.spoilt=bB->o.ch.l=[]/\o.fm=Z
def aaV{l:List F}{n:Nat}:(lZ (vC l) n).isSome=(Dv.has l n).isSome:=by unfold lZ vC Dv.has;rw[nQ,nQ,List.find?_map,nQ];rfl
def acT(w:U):(zeroValue 81).run PQ w=.ok (gP #[N dE 0,N mE 0,aH ⟨#[]⟩,.bool aL]) w:=XN
def XM(w:U):(zeroValue 197).run PQ w=.ok (aM Z) w:=XN
def Qr(c:Ch)(f:F)(h:c.spoilt=aL):(Dv.nU c f)=((Dv.has c.l f.num).isSome || (match Dv.last c.l with|some n=>f.last || decide (n<f.num)|none=>aL)):=by unfold Dv.nU;rw[h,Bool.or_false];rfl
def Nj(o:PC)(f:F)(w:U)(h:ChanAt w o)(hf:f.num<65536):Calls PQ 113 #[aM (M ⟨o.blk,0,Z⟩),KL f] w λe w'=>e=.returned (.bool (!Dv.nU o.ch f))/\Below w.heap.size w w':=by
 obtain⟨r,hr⟩:∃r,(!Dv.nU o.ch f)=r:=⟨_,rfl⟩
 rw[hr];obtain⟨blk,fm,⟨nm,op,l,sp⟩,sz,en,la⟩:=o;obtain⟨fc,fn,fd,ac⟩:=f;unfold KL;dsimp only at *;obtain⟨D,hD⟩:∃D:ByteArray,(⟨fd.toArray⟩:ByteArray)=D:=⟨_,rfl⟩
 rw[hD];have am:blk<w.heap.size:=(jG h.obj)
 obtain⟨W,hW,aa,-⟩:=jI w #[N dE fc,N mE fn,aH D,.bool ac] 81;have ho:W.heap[blk]? =_:=(aa.block _ am).trans h.obj;obtain⟨-,-,e2,-,e4,e5,e6⟩:=JZ ho;have z1:W.cell? ⟨w.heap.size,1,Z⟩=M (N mE fn):=by rw[hW];simp
 have z3:W.cell? ⟨w.heap.size,3,Z⟩=M (.bool ac):=by rw[hW];simp
 cases sp
 .obtain⟨⟨B,rfl,hm⟩,ak,af,ab,ai⟩:=h.sound rfl;dsimp only at hm ak ab ai;rw[Qr _ _ rfl]at hr;dsimp only at hr;obtain⟨t,ht⟩:∃t,(Dv.has l fn).isSome=t:=⟨_,rfl⟩
  rw[ht]at hr;obtain⟨q,hq⟩:∃q,(match Dv.last l with|some n=>ac || decide (n<fn)|none=>aL)=q:=⟨_,rfl⟩
  rw[hq]at hr
  have aj:(en=aL/\q=aL)\/(en=bB/\q=(ac || decide (la<fn))):=by
   cases hl:Dv.last l with
   |none=>rw[hl]at ab hq;exact .inl ⟨ab,hq.symm⟩
   |some n=>rw[hl]at ab hq;rw[ai n hl];exact .inr ⟨ab,hq.symm⟩
  have Hr:Hid _:=jD hr aa
  obtain⟨v0,v1,v2,v3,an⟩:∃a b c d,(lZ (vC l) fn).getD (Value.agg #[N dE 0,N mE 0,aH ⟨#[]⟩,.bool aL])=gP #[N dE a,N mE b,aH c,.bool d]:=by
   unfold lZ vC;rw[List.find?_map];cases l.find? ((λp:Nat×aD=>p.1 == fn)∘λf=>(f.num,KL f))with
   |none=>exact⟨_,_,_,_,rfl⟩
   |some x=>exact⟨_,_,_,_,rfl⟩
  have E:=λ(V:U)(I:V.heap[B]? =w.heap[B]?)=>(hm.of_block I).lookup (P:=PQ) (uq Tryz.underlying199) (uq Tryz.underlying79) (acT _) fn bB;simp only[if_true]at E;rw[aaV,an,ht]at E;have HL:Hid _:=jD E (jD hm.lt (jD am aa));have Y:w.heap.size<W.heap.size:=by rw[hW];simp
  clear an hD h hm ak af ab ai hq ht hr E aa;go_enter (fq Tryz.func113 rfl),Tryz.ntmps113;go_upto_region 1 with fail;rw[<-hW];clear hW;obtain⟨rfl,rfl⟩|⟨rfl,hq⟩:=aj
  .go_quiet (fail);go_upto_region 3 with fail;generalize I:pw _ _=V;have f2:V.cell? ⟨blk,2,Z⟩=M (.map (M B)):=by rw[<-I];exact e2
   have g1:V.cell? ⟨w.heap.size,1,Z⟩=M (N mE fn):=by rw[<-I];exact z1
   have hs:V.heap.size=W.heap.size:=by rw[<-I];rfl
   have J:V.heap[B]? =w.heap[B]?:=by rw[<-I];exact HL.out.2.2.2.block B HL.out.2.1
   have ae:=aP HL.out.2.1 (jv Y);have ag:=aP HL.out.2.2.1 (jv Y);rw[<-hs]at Y ae ag;have l1:=HL.out.1 V.drew J;have l2:=λobj=>HL.out.1 ((V.alloc obj).drew) ((aZ _ _ _ ae).trans J);have HV:Hid _:=jD I hs;clear I hs J e2 e4 e5 e6 z1 z3;go_region
   all_goals
    go_wp2_with fail;go_ret;refine⟨?_,Hr.out.2.trans ?_⟩
    .rw[<-Hr.out.1];simp
    .have hb:Below w.heap.size W V:=by rw[<-HV.out.1];exact below_drewN (aJ _ _) _
     refine hb.trans ?_
     first|exact(((aJ _ V).alloc aA _).drew)|exact(((aJ _ V).drew.alloc (by show _<=V.heap.size;omega) _))|trace_state
  .cases ac
   .by_cases hn:la<fn
    .have ao:(la:Int)<fn:=by omega
     have ah:q=bB:=by rw[hq];simp[hn]
     clear hq hn;subst ah;go_quiet (fail);go_wp2_with fail;go_ret;refine⟨?_,Hr.out.2.trans ⟨rfl,rfl,rfl,jE,λ_ _=>rfl⟩⟩;rw[<-Hr.out.1];simp
    .have ah:q=aL:=by rw[hq];simp[hn]
     have Hn:Hid _:=hn;clear hq hn;subst ah;go_quiet (fail);rw[ZZ Hn.out];go_upto_region 3 with fail;generalize I:pw _ _=V;have f2:V.cell? ⟨blk,2,Z⟩=M (.map (M B)):=by rw[<-I];exact e2
     have g1:V.cell? ⟨w.heap.size,1,Z⟩=M (N mE fn):=by rw[<-I];exact z1
     have hs:V.heap.size=W.heap.size:=by rw[<-I];rfl
     have J:V.heap[B]? =w.heap[B]?:=by rw[<-I];exact HL.out.2.2.2.block B HL.out.2.1
     have ae:=aP HL.out.2.1 (jv Y);have ag:=aP HL.out.2.2.1 (jv Y);rw[<-hs]at Y ae ag;have l1:=HL.out.1 V.drew J;have l2:=λobj=>HL.out.1 ((V.alloc obj).drew) ((aZ _ _ _ ae).trans J);have HV:Hid _:=jD I hs;clear I hs J e2 e4 e5 e6 z1 z3;go_region
     all_goals
      go_wp2_with fail;go_ret;refine⟨?_,Hr.out.2.trans ?_⟩
      .rw[<-Hr.out.1];simp
      .have hb:Below w.heap.size W V:=by rw[<-HV.out.1];exact below_drewN (aJ _ _) _
       refine hb.trans ?_
       first|exact(((aJ _ V).alloc aA _).drew)|exact(((aJ _ V).drew.alloc (by show _<=V.heap.size;omega) _))|trace_state
   .subst hq;go_quiet (fail);go_wp2_with fail;go_ret;refine⟨?_,Hr.out.2.trans ⟨rfl,rfl,rfl,jE,λ_ _=>rfl⟩⟩;rw[<-Hr.out.1];simp
 .have Hr:Hid _:=jD hr aa;clear hD h hr ho aa;go_enter (fq Tryz.func113 rfl),Tryz.ntmps113;go_upto_region 1 with fail;rw[<-hW];clear hW;go_quiet (fail);go_wp2_with fail;go_ret;refine⟨?_,Hr.out.2.trans ⟨rfl,rfl,rfl,jE,λ_ _=>rfl⟩⟩;rw[<-Hr.out.1];unfold Dv.nU;simp
end Hm
