import Derived.Test.YtpibpdpedjinhaaGreatDoorP29
import Derived.LaidEql
import Derived.Laws.Pointers
set_option maxRecDepth 100000
set_option maxHeartbeats 4000000
set_option linter.all false
open Bool renaming false->aL,true->bB
open Go renaming Calls->eE,Value->aD,World->U,run_underlying->eL
open Go.Ending renaming returned->bX
open Go.IntKind renaming i64->X,u16->mE,u32->dE
open Go.Obj renaming cells->aG
open Go.Proofs.Tryz renaming underlying199->kz,underlying40->qS,underlying79->qD
open Go.Value renaming bool->cF,int->N,pointer->aM,slice->aR,string->aH
open Option renaming none->Z,some->M
open Or renaming inl->cJ,inr->cK
open Prod renaming fst->cG
namespace Go.Proofs.YtpibpdpedjinhaaGreatDoor
namespace Hm
open Go.RowKit Go.Joins
open Dv (Ch Fine)
open Fr (F below_drewN)
section
variable {l:List F}{x:F}{k blk B t r cnt nm op n:Nat}{w w0 w1 w2:U}{cs:Array aD}{fz:Nat×Nat}{q:IntKind}{m:AL}{L:Nat->Bool}{sp:Bool}
def upto(n:Nat)(L:Nat->Bool)(x:F):Bool:=decide (x.num<=n) || L x.num
theorem size_cons(x:F)(l:List F):Dv.size (x::l)=x.data.length+Dv.size l:=by simp[Dv.size]
theorem size_drop(hn:(l.map (·.num)).Nodup)(Y:x∈l):Dv.size (l.filter (λy=>y.num != x.num))+x.data.length=Dv.size l:=by
 induction l with
 |nil=>simp at Y
 |cons y l ih=>
  have E:=iG.1 (by simpa using hn:(y.num::l.map (·.num)).Nodup);obtain rfl|I:=dD.1 Y
  .have:l.filter (λy=>y.num != x.num)=l:=iW.2 (λz hz=>by
    simp only[bne_iff_ne,ne_eq];exact λe=>E.1 (bM.2 ⟨z,hz,e⟩))
   rw[eG,Zs aC,this,size_cons];omega
  .have J:y.num≠x.num:=λe=>E.1 (e ▸ bM.2 ⟨x,I,rfl⟩);rw[eG,ZD (by simp[J]),size_cons,size_cons];have:=ih E.2 I;omega
theorem aaE(l:List F)(k:Nat):nY (vC l) k=vC (l.filter (λy=>y.num != k)):=by unfold nY vC;rw[List.filter_map];rfl
theorem IL(l:List F)(n k:Nat)(L:Nat->Bool)(hk:n<k):(l.filter (upto n L)).filter (λy=>y.num != k)=l.filter (upto n (λx=>L x&&x != k)):=by
 rw[List.filter_filter]
 congr 1
 funext y;unfold upto;by_cases e:y.num=k
 .simp[e];omega
 .have:(y.num != k)=bB:=by simp[e]
  show((y.num != k)&&_)=(_ || (L y.num&&(y.num != k)))
  rw[this];simp
theorem Jb(l:List F)(n k:Nat)(L:Nat->Bool)(hk:k<=n):l.filter (upto n L)=l.filter (upto n (λx=>L x&&x != k)):=by
 congr 1
 funext y;unfold upto;by_cases e:y.num=k
 .have:y.num<=n:=by omega
  simp[this]
 .have:(y.num != k)=bB:=by simp[e]
  show _=(_ || (L y.num&&(y.num != k)))
  rw[this];simp
theorem abw{v:aD}(h:(k,v)∈vC l):∃x,x∈l/\x.num=k/\v=KL x:=by unfold vC at h;obtain⟨x,E,e⟩:=bM.1 h;simp only[dJ]at e;exact⟨x,E,e.1,e.2.symm⟩
def mV(nm:Nat)(op:Nat)(fm:Option Nat)(sz:Int)(en:Bool)(la:Nat)(sp:Bool):Array aD:=#[N dE nm,N X op,.map fm,N X sz,.bool en,N mE la,.bool sp]
structure pq(w0:U)(blk B nm op n:Nat)(sp:Bool)(l:List F)(r:Nat)(L:Nat->Bool)(cnt:Nat)(w:U):Prop where
 rg:kZ w B r mE (vC (l.filter (upto n L))) L cnt
 obj:w.heap[blk]? =M (aG (mV nm op (M B) (Dv.size (l.filter (upto n L))) bB n sp) 201 (0,0))
 jR:jO (λk=>k=blk\/k=B) w0 w
 new:w0.heap.size<=r
theorem kY(h:w.heap[blk]? =M (aG cs t fz))(E:lQ w B q m):blk≠B:=by obtain⟨es,c,I,_⟩:=E;intro e;rw[e,I]at h;cases h
theorem yM(h:w.heap[blk]? =M (aG cs t fz))(J:kZ w B r q m L cnt):blk≠r:=by obtain⟨es,I,E,seen,c0,h1,h2,h3,h4,h5,Y,_⟩:=J;intro e;rw[e,Y]at h;cases h
theorem pq.came(h:pq w0 blk B nm op n sp l r L cnt w)(I:w.grownBy w1 (M r)):w1.heap[blk]? =M (aG (mV nm op (M B) (Dv.size (l.filter (upto n L))) bB n sp) 201 (0,0))/\jO (λk=>k=blk\/k=B) w0 w1:=by
 have E:=yM h.obj h.rg;refine⟨(I.block blk (jG h.obj) (by simp[E])).trans h.obj,h.jR.trans (.grown I) (λj J e=>?_)⟩;simp at e;subst e;have:=h.new;omega
theorem pq.stay(I:kZ w1 B r mE (vC (l.filter (upto n L))) (λx=>L x&&x != k) cnt)(ho:w1.heap[blk]? =M (aG (mV nm op (M B) (Dv.size (l.filter (upto n L))) bB n sp) 201 (0,0)))(J:jO (λk=>k=blk\/k=B) w0 w1)(Y:w0.heap.size<=r)(hk:k<=n)(E:Below w1.heap.size w1 w2):pq w0 blk B nm op n sp l r (λx=>L x&&x != k) cnt w2:=by
 refine⟨?_,?_,J.trans (.below E jE (λ_=>False)) (λ_ _ e=>e.elim),Y⟩
 .rw[<-Jb l n k L hk];exact I.Hu (E.block _ I.aax.lt) (E.block _ I.lt)
 .rw[<-Jb l n k L hk];exact(E.block _ (jG ho)).trans ho
theorem pq.less(E:kZ w1 B r mE m (λx=>L x&&x != k) cnt){s:Int}(ho:w1.heap[blk]? =M (aG (mV nm op (M B) s bB n sp) 201 (0,0)))(Y:jO (λk=>k=blk\/k=B) w0 w1)(I:Below w1.heap.size w1 w2)(s':Int):kZ (w2.setCell ⟨blk,3,Z⟩ (N X s')) B r mE m (λx=>L x&&x != k) cnt/\(w2.setCell ⟨blk,3,Z⟩ (N X s')).heap[blk]? =M (aG (mV nm op (M B) s' bB n sp) 201 (0,0))/\jO (λk=>k=blk\/k=B) w0 (w2.setCell ⟨blk,3,Z⟩ (N X s')):=by
 have J:=kY ho E.aax;have h2:=yM ho E;have ho2:w2.heap[blk]? =_:=(I.block _ (jG ho)).trans ho;refine⟨E.Hu ((aW _ _ _ _ (λe=>J e.symm)).trans (I.block _ E.aax.lt)) ((aW _ _ _ _ (λe=>h2 e.symm)).trans (I.block _ E.lt)),?_,?_⟩
 .have:=jV ho2 3 (N X s');simpa[mV]using this
 .exact(Y.trans (.below I jE (λ_=>False)) (λ_ _ e=>e.elim)).trans (jO.set w2 blk 3 _) (λk _ e=>cJ e)
theorem pq.gone{w3 w4:U}(hl:(l.map (·.num)).Nodup)(hk:n<k)(hx:x∈l.filter (upto n L))(I:x.num=k)(ho:w3.heap[blk]? =M (aG (mV nm op (M B) ((Dv.size (l.filter (upto n L)):Int)-x.data.length) bB n sp) 201 (0,0)))(hc:jO (λk=>k=blk\/k=B) w0 w3)(hn:w0.heap.size<=r)(J:kZ w4 B r mE (nY (vC (l.filter (upto n L))) k) (λx=>(L x&&x != k)&&x != k) cnt)(Y:w3.grownBy w4 (M B))(E:blk≠B):pq w0 blk B nm op n sp l r (λx=>L x&&x != k) cnt w4:=by
 have e1:(λx=>(L x&&x != k)&&x != k)=(λx=>L x&&x != k):=by funext x;cases L x<;>cases(x != k)<;>rfl
 rw[e1,aaE,IL l n k L hk]at J;refine⟨J,?_,hc.trans (.grown Y) (λj _ e=>cK (by simpa using e.symm)),hn⟩;have hs:=size_drop ((List.filter_sublist.map _).nodup hl) hx;rw[I,IL l n k L hk]at hs;rw[(Y.block blk (jG ho) (by simp[E])),ho]
 congr 3
 omega
theorem aaQ{p:F->Bool}(E:x∈l.filter p):x.data.length<=Dv.size (l.filter p):=by
 induction l with
 |nil=>simp at E
 |cons y l ih=>
  rw[eG]at E⊢;split
  .rename_i h;rw[ZD h]at E;rw[size_cons];obtain rfl|E:=dD.1 E
   .omega
   .have:=ih E;omega
  .rename_i h;rw[Zs h]at E;exact ih E
theorem aak(blk B nm op n:Nat)(sp en:Bool)(la:Nat)(l:List F)(w:U)(ho:w.heap[blk]? =M (aG (mV nm op (M B) (Dv.size l) en la sp) 201 (0,0)))(hm:lQ w B mE (vC l))(hl:(l.map (·.num)).Nodup)(hs:Small l)(ab:Dv.size l<=8589934592):eE PQ 171 #[aM (M ⟨blk,0,Z⟩),N mE n] w λe w'=>e=bX (.tuple #[])/\w'.heap[blk]? =M (aG (mV nm op (M B) (Dv.size (l.filter (λx=>decide (x.num<=n)))) bB n sp) 201 (0,0))/\lQ w' B mE (vC (l.filter (λx=>decide (x.num<=n))))/\jO (λk=>k=blk\/k=B) w w':=by
 have aj:=kY ho hm;obtain⟨W1,ac⟩:∃W1,W1=(w.setCell ⟨blk,4,Z⟩ (cF bB)).setCell ⟨blk,5,Z⟩ (N mE n):=⟨_,rfl⟩
 obtain⟨-,-,-,-,c4,c5⟩:=tX ho;have fz:=aQ ho
 have ho1:W1.heap[blk]? =M (aG (mV nm op (M B) (Dv.size l) bB n sp) 201 (0,0)):=by
  rw[ac];have:=jV (jV ho 4 (cF bB)) 5 (N mE n);simpa[mV]using this
 have a2:lQ W1 B mE (vC l):=hm.of_block (by rw[ac,aW _ _ _ _ (λe=>aj e.symm),aW _ _ _ _ (λe=>aj e.symm)])
 have E:jO (λk=>k=blk\/k=B) w W1:=by
  rw[ac];exact((jO.set w blk 4 _).trans (jO.set _ blk 5 _) (λ_ _ e=>e)).mono (λk _ e=>cJ e)
 obtain⟨-,-,d2⟩:=cells3 ho1;have H1:Hid _:=jD ho1 (jD E (jD hl (jD hs ab)));have ap:Hid (lQ _ _ _ _):=a2;clear ho hm hl hs ab ho1 a2 E;go_enter (fq Tryz.func171 rfl),Tryz.ntmps171;go_upto_region 2 with fail;rw[<-ac];clear ac;go_wp2_with (first|(at_range;refine yT _ rfl _ 199 rfl 79 81 _ (uq kz) B _ rfl ap.out ?_;intro w0 az ak a6)|go_in)
 go_frame
 have aa:pq w blk B nm op n sp l W1.heap.size (λk=>decide (k∈(vC l).map cG)) (vC l).length w0:=by
  have ag:l.filter (upto n (λk=>decide (k∈(vC l).map cG)))=l:=iW.2 (λx hx=>by
   unfold upto;have:x.num∈(vC l).map cG:=bM.2 ⟨_,bM.2 ⟨x,hx,rfl⟩,rfl⟩;simp only[this,decide_true,Bool.or_true])
  refine⟨by rw[ag];exact az,by rw[ag];exact(ak.block _ (jG H1.out.1) aC).trans H1.out.1,H1.out.2.1.trans (.grown ak) (λk _ e=>by simp at e),H1.out.2.1.size⟩
 obtain⟨r,hr⟩:∃r,r=W1.heap.size:=⟨_,rfl⟩
 rw[<-hr]at aa⊢;have ai:Hid (pq _ _ _ _ _ _ _ _ _ _ _ _):=aa;clear aa az ak a6 ap d2 hr;go_loopg [4,5] (vC l).length (λgg _ _ wx=>∃L,Hid (pq w blk B nm op n sp l r L gg wx))
 case atStart=>exact⟨_,ai⟩
 case round=>
  obtain⟨L,HE⟩:=hrel;clear ai;go_upto_region 4 with(first|(at_next;refine yh _ rfl _ rfl B r _ _ L _ rfl HE.out.rg ?_ ?_)|go_in)
  .intro bh an;go_wp2_with fail;go_end0;refine⟨rfl,?_,?_,HE.out.jR⟩
   .have:=HE.out.obj
    have e:l.filter (upto n L)=l.filter (λx=>decide (x.num<=n)):=by
     congr 1;funext x;unfold upto;rw[an];simp
    rw[e]at this;exact this
   .have:=HE.out.rg.aax
    have e:l.filter (upto n L)=l.filter (λx=>decide (x.num<=n)):=by
     congr 1;funext x;unfold upto;rw[an];simp
    rw[e]at this;exact this
  .intro k v w1 a3 a5 ah ar I av aw a8 af;obtain⟨x,hx,aq,rfl⟩:=abw ah;obtain⟨ho1,E⟩:=HE.out.came aw;obtain⟨xc,xn,xd,xl⟩:=x;simp only at aq;subst aq;unfold KL at af⊢;dsimp only at af⊢;obtain⟨D,hD⟩:∃D:ByteArray,(⟨xd.toArray⟩:ByteArray)=D:=⟨_,rfl⟩
   have Y:D.size=xd.length:=by rw[<-hD];rfl
   rw[hD]at af⊢;obtain⟨W2,ae,J,-⟩:=jI w1 #[N dE xc,N mE xn,aH D,.bool xl] 81;have z2:W2.cell? ⟨w1.heap.size,2,Z⟩=M (aH D):=by rw[ae];simp
   have a7:=(jG ho1)
   have ho2:W2.heap[blk]? =_:=(J.block _ a7).trans ho1;obtain⟨S,hS⟩:∃S:Nat,S=Dv.size (l.filter (upto n L)):=⟨_,rfl⟩
   have bg:D.size<=S:=by rw[Y,hS];exact aaQ hx
   have bj:S<=8589934592:=by rw[hS];exact bH (Dv.size_filter_le _ _) H1.out.2.2.2.2
   have y3:W2.cell? ⟨blk,3,Z⟩=M (N X S):=by rw[aI ho2,hS];rfl
   have bk:=aQ ho2;have bd:w1.heap.size<W2.heap.size:=by rw[ae];simp
   have HX:Hid _:=jD hx (jD I (jD ho1 (jD E (jD J (jD hS Y)))));clear hx I ho1 E J ah ar aw a8 ho2 hS hD Y a5;go_upto_region 5 with fail;rw[<-ae];clear ae af;by_cases hk:xn<=n
   .have a4:¬(n:Int)<xn:=by omega
    go_wp2_with fail;go_roundg a3
    case measure=>exact av
    case rel=>
     obtain⟨hx,I,ho1,E,J,hS,Y⟩:=HX.out;exact⟨_,pq.stay I ho1 E HE.out.new hk J⟩
   .have a4:(n:Int)<xn:=by omega
    have ba:blk≠w1.heap.size:=aA
    go_upto_region 6 with fail;go_cut [29] (λv wx=>Hid (∃W5,Below w1.heap.size w1 W5/\wx=W5.setCell ⟨blk,3,Z⟩ (N X ((S:Int)-D.size))))
    case first=>
     go_region
     all_goals
      go_wp2_with fail;go_meet;exact⟨_,HX.out.2.2.2.2.1.drew,rfl⟩
    case rest=>
     obtain⟨W5,a9,rfl⟩:=hcut.out;obtain⟨hx,I,ho1,E,J,hS,Y⟩:=HX.out;obtain⟨q1,q2,q3⟩:=pq.less I ho1 E a9 (S-D.size);obtain⟨W6,am⟩:∃W6,W6=W5.setCell ⟨blk,3,Z⟩ (N X ((S:Int)-D.size)):=⟨_,rfl⟩
     rw[<-am]at q1 q2 q3⊢;obtain⟨-,-,y2⟩:=cells3 q2;have HQ:Hid _:=jD q1 (jD q2 q3);clear hx I ho1 E J hS Y q1 q2 q3 am hcut;go_wp2_with (first|(at_delete;(refine vV _ rfl _ _ 199 79 rfl 81 _ (uq kz) (uq qD) B r _ _ _ xn rfl rfl HQ.out.1 ?_;intro w7 ao au bb ay a1;have ax:Hid _:=jD au (jD ay a1);clear au ay a1;go_frame))|go_in)
     go_roundg ao
     case measure=>omega
     case rel=>
      obtain⟨hx,I,ho1,E,J,hS,Y⟩:=HX.out;have ho6:=HQ.out.2.1;rw[hS,Y]at ho6;exact⟨_,pq.gone (k:=xn) H1.out.2.2.1 aA hx rfl ho6 HQ.out.2.2 HE.out.new ax.out.1 ax.out.2.1 aj⟩
end
section
variable {l:List F}{f:F}{c:Ch}{w0 w w':U}{blk B nm op s la:Nat}{en:Bool}
theorem aaR(h:f.num∉l.map (·.num)):xg (vC l) f.num (KL f)=vC (l++[f]):=by
 unfold xg
 have:f.num∉(vC l).map cG:=by
  unfold vC;rw[jy];exact h
 rw[Zs this];unfold vC;simp
theorem VG(q:f.last=bB):Dv.grown c f=(c.l++[f]).filter (λx=>decide (x.num<=f.num)):=by
 unfold Dv.grown
 congr 1
 funext x;unfold Dv.goes;rw[q,Bool.true_and,<-decide_not];exact decide_eq_decide.2 aA
theorem LH(q:f.last=aL):Dv.grown c f=c.l++[f]:=by unfold Dv.grown;refine iW.2 (λx _=>?_);unfold Dv.goes;rw[q];simp
theorem MS(h:Small c.l)(E:f.num<65536/\f.data.length<=65536):Small (Dv.grown c f):=by
 intro x q;unfold Dv.grown at q;obtain q|q:=dM.1 (fU.1 q).1
 .exact h x q
 .rw[dK.1 q];exact E
theorem KD(h:f.num∉l.map (·.num))(I:(l.map (·.num)).Nodup):((l++[f]).map (·.num)).Nodup:=by rw[bJ];refine List.nodup_append.2 ⟨I,aC,λa E b q e=>?_⟩;simp at q;subst q;exact h (e ▸ E)
structure su(w0:U)(blk B nm op:Nat)(l:List F)(s:Nat)(en:Bool)(la:Nat)(w:U):Prop where
 obj:w.heap[blk]? =M (aG (mV nm op (M B) s en la aL) 201 (0,0))
 map:lQ w B mE (vC l)
 jR:jO (λk=>k=blk\/k=B) w0 w
theorem su.kept(h:su w0 blk B nm op l s en la w)(q:Below w.heap.size w w'):su w0 blk B nm op l s en la w':=
 ⟨(q.block _ (jG h.obj)).trans h.obj,h.map.of_block (q.block _ h.map.lt),h.jR.trans (.below q jE (λ_=>False)) (λ_ _ e=>e.elim)⟩
theorem su.put{l':List F}(h:su w0 blk B nm op l s en la w)(I:lQ w' B mE (vC l'))(E:w.grownBy w' (M B)):su w0 blk B nm op l' s en la w':=by have q:=kY h.obj h.map;exact⟨(E.block _ (jG h.obj) (by simp[q])).trans h.obj,I,h.jR.trans (.grown E) (λk _ e=>cK (by simpa using e.symm))⟩
theorem su.size(h:su w0 blk B nm op l s en la w)(s':Nat):su w0 blk B nm op l s' en la (w.setCell ⟨blk,3,Z⟩ (N X s')):=by have q:=kY h.obj h.map;refine⟨?_,h.map.of_block (aW _ _ _ _ (λe=>q e.symm)),h.jR.trans (jO.set w blk 3 _) (λk _ e=>cJ e)⟩;have:=jV h.obj 3 (N X s');simpa[mV]using this
theorem su.acC(h:su w0 blk B nm op l s en la w)(q:la<65536):ChanAt ((w.setCell ⟨blk,6,Z⟩ (cF bB)).setCell ⟨blk,2,Z⟩ (.map Z)) ⟨blk,Z,⟨nm,op,[],bB⟩,s,en,la⟩/\jO (λk=>k=blk\/k=B) w0 ((w.setCell ⟨blk,6,Z⟩ (cF bB)).setCell ⟨blk,2,Z⟩ (.map Z)):=by refine⟨⟨?_,Dv.L9,λx E=>by simp at E,q,λh=>by simp at h,λ_=>⟨rfl,rfl⟩⟩,(h.jR.trans (jO.set w blk 6 _) (λk _ e=>cJ e)).trans (jO.set _ blk 2 _) (λk _ e=>cJ e)⟩;have:=jV (jV h.obj 6 (cF bB)) 2 (.map Z);simpa[mV,xI]using this
theorem su.sound(h:su w0 blk B nm op l s en la w)(q:la<65536)(I:Fine l)(hs:Small l)(Y:en=(Dv.last l).isSome)(J:∀n,Dv.last l=M n->la=n)(E:s=Dv.size l)(hr:Dv.size l<=4294967296):ChanAt w ⟨blk,M B,⟨nm,op,l,aL⟩,s,en,la⟩:=
 ⟨h.obj,I,hs,q,λ_=>⟨⟨B,rfl,h.map⟩,by simp[E],hr,Y,J⟩,λh=>by simp at h⟩
theorem Wv(o:PC)(f:F)(most:Int)(w:U)(h:ChanAt w o)(hb:Dv.nU o.ch f=aL)(hf:f.num<65536/\f.data.length<=65536)(bg:0<=most/\most<=4294967296):eE PQ 114 #[aM (M ⟨o.blk,0,Z⟩),KL f,N X most] w λe w'=>e=bX (.tuple #[])/\∃o':PC,o'.blk=o.blk/\o'.ch=Dv.joined most o.ch f/\(o'.fm=o.fm\/o'.fm=Z)/\ChanAt w' o'/\jO (λk=>k=o.blk\/o.fm=M k) w w':=by
 obtain⟨b1,b2,b3⟩:=Dv.Ag hb;obtain⟨blk,fm,⟨nm,op,l,sp⟩,sz,en,la⟩:=o;dsimp only at b1 b2 b3⊢;subst b2;obtain⟨⟨B,hB,hm⟩,a1,aj,ai,ah⟩:=h.sound rfl;dsimp only at hB hm a1 ai ah aj;subst hB a1;obtain⟨c1,bb⟩:∃c:Ch,c=⟨nm,op,l,aL⟩:=⟨_,rfl⟩
 have E:=Dv.OQ h.fine hb;have I:=MS h.small hf;have q:=Dv.Dp hb
 have hj:Dv.joined most ⟨nm,op,l,aL⟩ f=(if most<(Dv.size (Dv.grown ⟨nm,op,l,aL⟩ f):Int)then⟨nm,op,[],bB⟩else⟨nm,op,Dv.grown ⟨nm,op,l,aL⟩ f,aL⟩):=by
  unfold Dv.joined;rw[hb];rfl
 obtain⟨fc,fn,fd,ae⟩:=f;unfold KL;dsimp only at *;obtain⟨D,hD⟩:∃D:ByteArray,(⟨fd.toArray⟩:ByteArray)=D:=⟨_,rfl⟩
 have ag:D.size=fd.length:=by rw[<-hD];rfl
 rw[hD];obtain⟨W,hW,a7,-⟩:=jI w #[N dE fc,N mE fn,aH D,.bool ae] 81;have hk:su w blk B nm op l (Dv.size l) en la W:=su.kept ⟨h.obj,hm,jO.refl _ _⟩ a7;have au:=hk.kept (aJ _ W).drew;obtain⟨w2,aa,ao,aw,a9⟩:=au.map.update (P:=PQ) (uq kz) (uq qD) fn (KL ⟨fc,fn,fd,ae⟩);have hput:=aaR (l:=l) (f:=⟨fc,fn,fd,ae⟩) b1;dsimp only at hput;rw[hput]at ao;have ab:=au.put ao aw;unfold KL at aa;dsimp only at aa;rw[hD]at aa;have bh:blk<w.heap.size:=(jG h.obj)
 obtain⟨-,-,e2⟩:=cells3 hk.obj;have ba:w.heap.size<W.heap.size:=by rw[hW];simp
 have zo:W.heap[w.heap.size]? =M (aG #[N dE fc,N mE fn,aH D,.bool ae] 81 (0,0)):=by rw[hW];exact heap_alloc_new _ _
 obtain⟨z0,z1,z2,z3⟩:=cells4 zo;have ac:w2.heap[w.heap.size]? =_:=(aw.block _ (show _<W.heap.size from ba) (by simp;have:=hm.lt;omega)).trans zo;obtain⟨-,y1,y2,y3⟩:=cells4 ac;have x3:w2.cell? ⟨blk,3,Z⟩=M (N X (Dv.size l:Int)):=nV ab.obj rfl;have fz:=aQ ab.obj;obtain⟨S,hS⟩:∃S,Dv.size l=S:=⟨_,rfl⟩
 have J:Dv.size (l++[⟨fc,fn,fd,ae⟩])=S+D.size:=by rw[Dv.size_append,hS,ag]
 rw[hS]at x3 ab aj;have bj:D.size<=65536:=by rw[ag];exact hf.2
 have H:Hid _:=jD h (jD E (jD I (jD q (jD ab (jD J (jD ai (jD ah (jD hb (jD b1 (jD b3 (jD hf (jD ac (jD ag hj)))))))))))));have a8:blk≠w.heap.size:=aA
 clear h E I q hk au ab J ai ah b1 b3 hm ao aw a9 hput hj bb a7 hS hD hb hf zo ac c1 ag;go_enter (fq Tryz.func114 rfl),Tryz.ntmps114;go_upto_region 1 with fail;rw[<-hW];clear hW;go_cut [12] (λ_ wx=>wx=w2)
 case first=>
  go_region
  all_goals
   go_wp2_with fail;go_meet;rfl
 case rest=>
  subst hcut;clear e2 z0 z1 z2 z3 aa;go_upto_region 2 with fail;go_cut [16] (λ_ wx=>Hid (∃W5,Below wc.heap.size wc W5/\wx=W5.setCell ⟨blk,3,Z⟩ (N X ((S+D.size:Nat):Int))))
  case first=>
   go_region
   all_goals
    go_wp2_with fail;go_meet;exact⟨_,(aJ _ _).drew,by rw[Int.natCast_add];rfl⟩
  case rest=>
   obtain⟨W5,am,rfl⟩:=hcut.out;obtain⟨h,E,I,q,ab,J,ai,ah,hb,b1,b3,hf,ac,ag,hj⟩:=H.out;have Y:=(ab.kept am).size (S+D.size);have ak:(W5.setCell ⟨blk,3,Z⟩ (N X ((S+D.size:Nat):Int))).heap[w.heap.size]? =_:=((aW _ _ _ _ a8.symm).trans (am.block _ (jG ac))).trans ac;obtain⟨W6,an⟩:∃W6,W6=W5.setCell ⟨blk,3,Z⟩ (N X ((S+D.size:Nat):Int)):=⟨_,rfl⟩
   rw[<-an]at Y ak⊢;obtain⟨-,y1,-,y3⟩:=cells4 ak;have ax:=KD (l:=l) (f:=⟨fc,fn,fd,ae⟩) b1 h.fine.apart;cases ae
   .have hg:=LH (c:=⟨nm,op,l,aL⟩) (f:=⟨fc,fn,fd,aL⟩) rfl;dsimp only at hg;rw[hg]at E I q hj;rw[J]at hj;have x3:W6.cell? ⟨blk,3,Z⟩=M (N X ((S+D.size:Nat):Int)):=nV Y.obj rfl;obtain⟨-,-,x2,-,-,-,x6⟩:=JZ Y.obj;have bd:=aQ Y.obj;have H6:Hid _:=jD Y (jD E (jD I (jD q (jD h.lastLt (jD ai (jD ah (jD J hj)))))));clear h E I q ab J ai ah hb b1 b3 hf ac Y ak an am hcut hg ax fz ag hj;by_cases aq:most<((S+D.size:Nat):Int)
    .have az:most<(S:Int)+(D.size:Int):=by omega
     go_wp2_with fail;go_end0;obtain⟨q1,q2⟩:=su.acC H6.out.1 H6.out.2.2.2.2.1;obtain⟨k5,k1,k2,k3,k4,k6,k7,k8,kj⟩:=H6.out;rw[ZD aq]at kj;exact⟨rfl,_,rfl,kj.symm,cK rfl,q1,q2.mono (λk _ e=>e.imp id (λe=>by rw[e]))⟩
    .have az:¬most<(S:Int)+(D.size:Int):=by omega
     go_wp2_with fail;go_end0;obtain⟨k5,k1,k2,k3,k4,k6,k7,k8,kj⟩:=H6.out;rw[Zs aA]at kj;simp only[bU,if_false,Option.or_none]at k3;refine⟨rfl,_,rfl,kj.symm,cJ rfl,su.sound k5 k4 k1 k2 (by rw[k3];exact k6) (λn hn=>k7 n (by rw[<-k3];exact hn)) k8.symm aA,k5.jR.mono (λk _ e=>e.imp id (λe=>by rw[e]))⟩
   .have hg:=VG (c:=⟨nm,op,l,aL⟩) (f:=⟨fc,fn,fd,bB⟩) rfl;dsimp only at hg;rw[hg]at E I q hj
    have af:=aak blk B nm op fn aL en la _ W6 (by rw[J];exact Y.obj) Y.map ax (λx hx=>by
     obtain hx|hx:=dM.1 hx
     .exact h.small x hx
     .rw[dK.1 hx];exact hf) (by rw[J];omega)
    obtain⟨l2,ar⟩:∃l2:List F,l2=(l++[(⟨fc,fn,fd,bB⟩:F)]).filter (λx=>decide (x.num<=fn)):=⟨_,rfl⟩
    rw[<-ar]at af E I q hj;have ap:Hid _:=λ(_:Unit)=>af
    have a2:Dv.last l=Z:=by
     cases hx:Dv.last l with
     |none=>rfl
     |some n=>have:=(b3 n hx).1;cases this
    have a5:Dv.size l2<=S+D.size:=by rw[ar,<-J];exact Dv.size_filter_le _ _
    obtain⟨S2,a6⟩:∃S2,Dv.size l2=S2:=⟨_,rfl⟩
    rw[a6]at a5 hj;have H6:Hid _:=jD Y (jD E (jD I (jD q (jD hf.1 (jD a2 (jD a6 hj))))));clear h E I q ab J ai ah hb b1 b3 hf ac Y ak an am hcut hg ax fz ag hj af ar a2;go_upto_region 5 with(first|(go_at_call 171;refine aT (ap.out ()) ?_;rintro e w7 ⟨rfl,VR,a3,a4⟩)|go_in)
    obtain⟨k5,k1,k2,k3,k4,k6,kS,kj⟩:=H6.out;rw[kS]at VR;have ay:su w blk B nm op l2 S2 bB fn w7:=⟨VR,a3,k5.jR.trans a4 (λ_ _ e=>e)⟩
    have x3:w7.cell? ⟨blk,3,Z⟩=M (N X (S2:Int)):=nV VR rfl;obtain⟨-,-,x2,-,-,-,x6⟩:=JZ VR;have bk:=aQ VR;have av:Hid (su _ _ _ _ _ _ _ _ _ _):=ay;clear VR a3 a4 ay k5 k1 k2 k3 k4 k6 kS kj;by_cases aq:most<(S2:Int)
    .go_wp2_with fail;go_end0;obtain⟨k5,k1,k2,k3,k4,k6,kS,kj⟩:=H6.out;obtain⟨q1,q2⟩:=su.acC av.out k4;rw[ZD aq]at kj;exact⟨rfl,_,rfl,kj.symm,cK rfl,q1,q2.mono (λk _ e=>e.imp id (λe=>by rw[e]))⟩
    .go_wp2_with fail;go_end0;obtain⟨k5,k1,k2,k3,k4,k6,kS,kj⟩:=H6.out;rw[Zs aA]at kj;rw[k6]at k3;simp only[if_true,Option.none_or]at k3;refine⟨rfl,_,rfl,kj.symm,cJ rfl,su.sound av.out k4 k1 k2 (by rw[k3];rfl) (λn hn=>by rw[k3]at hn;exact fC hn) kS.symm aA,av.out.jR.mono (λk _ e=>e.imp id (λe=>by rw[e]))⟩
end
section
variable {k nb n b:Nat}{XS:Nat->Prop}{w w':U}{o:PC}{vo:aD}{nm:AL}{os:List PC}
def ptr(b:Nat):aD:=aM (M ⟨b,0,Z⟩)
structure Chs(w:U)(nb:Nat)(vo:aD)(nm:AL)(os:List PC):Prop where
 named:lQ w nb dE nm
 order:Row w 197 1 vo os.length (os.map λo=>ptr o.blk)
 chans:∀o,o∈os->ChanAt w o
 apart:(os.map (·.blk)).Nodup
 maps:∀o o',o∈os->o'∈os->∀b,o.fm=M b->o'.fm=M b->o.blk=o'.blk
 far:∀o,o∈os->o.fm≠M nb
 entries:∀p,p∈nm->∃o,o∈os/\p=(o.ch.name,ptr o.blk)
def Own(nb:Nat)(vo:aD)(os:List PC)(k:Nat):Prop:=k=nb\/vo.ownBlock=M k\/∃o,o∈os/\(k=o.blk\/o.fm=M k)
def alive(nm:AL)(o:PC):Bool:=match lZ nm o.ch.name with
 |some (aM (M a))=>a.block == o.blk
 |_=>aL
def lives(nm:AL)(os:List PC):List Ch:=(os.filter (alive nm)).map (·.ch)
theorem ND{m:AL}{v:aD}(h:lZ m k=M v):(k,v)∈m:=by
 unfold lZ at h;rw[bI]at h
 grind
theorem ChanAt.jR(h:ChanAt w o)(E:jO XS w w')(I:¬XS o.blk)(h2:∀b,o.fm=M b->¬XS b):ChanAt w' o:=by refine⟨(E.block _ (jG h.obj) I).trans h.obj,h.fine,h.small,h.lastLt,λhs=>?_,h.spoilt⟩;obtain⟨⟨B,e,q⟩,a,b,c,d⟩:=h.sound hs;exact⟨⟨B,e,q.of_block (E.block _ q.lt (h2 B e))⟩,a,b,c,d⟩
theorem Chs.jR(h:Chs w nb vo nm os)(E:jO XS w w')(q:∀k,Own nb vo os k->¬XS k):Chs w' nb vo nm os:=
 ⟨h.named.of_block (E.block _ h.named.lt (q _ (cJ rfl))),h.order.jR E (λg J=>q g (cK (cJ J))),λo ho=>(h.chans o ho).jR E (q _ (cK (cK ⟨o,ho,cJ rfl⟩))) (λb I=>q b (cK (cK ⟨o,ho,cK I⟩))),h.apart,h.maps,h.far,h.entries⟩
theorem Chs.below(h:Chs w nb vo nm os)(q:Below w.heap.size w w'):Chs w' nb vo nm os:=h.jR (.below q jE (λ_=>False)) (λ_ _ e=>e)
theorem Chs.rU(h:Chs w nb vo nm os)(hk:Own nb vo os k):k<w.heap.size:=by
 obtain rfl|hk|⟨o,ho,rfl|hk⟩:=hk
 .exact h.named.lt
 .exact h.order.lt hk
 .exact(dY.1 (h.chans o ho).obj).1
 .cases hs:o.ch.spoilt
  .obtain⟨⟨B,e,q⟩,_⟩:=(h.chans o ho).sound hs;rw[e]at hk;cases hk;exact q.lt
  .rw[((h.chans o ho).spoilt hs).2]at hk;cases hk
theorem Chs.lF(h:Chs w nb vo nm os){cs:Array aD}{t:Nat}{E:Nat×Nat}(hk:w.heap[k]? =M (aG cs t E))(h1:t≠197)(h2:t≠201):¬Own nb vo os k:=by
 rintro(rfl|e|⟨o,ho,rfl|e⟩)
 .exact kY hk h.named rfl
 .obtain⟨I,q⟩:=h.order.obj e
  grind
 .have q:=(h.chans o ho).obj;unfold xI at q
  grind
 .cases hs:o.ch.spoilt
  .obtain⟨⟨B,Y,J⟩,_⟩:=(h.chans o ho).sound hs;rw[Y]at e;cases e;exact kY hk J rfl
  .rw[((h.chans o ho).spoilt hs).2]at e;cases e
theorem Chs.get(h:Chs w nb vo nm os):lZ nm n=Z\/∃o,o∈os/\o.ch.name=n/\lZ nm n=M (ptr o.blk):=by
 cases q:lZ nm n with
 |none=>exact cJ rfl
 |some v=>
  obtain⟨o,ho,e⟩:=h.entries _ (ND q)
  grind
theorem qB(h:lZ nm o.ch.name=M (ptr b)):alive nm o=(b == o.blk):=by unfold alive;rw[h];rfl
theorem tZ(h:lZ nm o.ch.name=Z):alive nm o=aL:=by unfold alive;rw[h]
theorem afl(w:U):(sizeOf 201).run PQ w=.ok 7 w:=XN
theorem agi{a:Nat}{J q:Array aD}{ta tb:TypeId}(E:w.heap[a]? =M (aG J ta (0,0)))(Y:w.heap[b]? =M (aG q tb (0,0))):(binOp .eql 197 (aM (M ⟨a,0,Z⟩)) (aM (M ⟨b,0,Z⟩))).run PQ w=.ok (.bool (a == b)) w:=by
 have I:(sameAddr ⟨a,0,Z⟩ ⟨b,0,Z⟩).run PQ w=.ok (a == b) w:=by
  by_cases e:a=b
  .subst e;rw[run_sameAddr_same];simp
  .rw[run_sameAddr_other w (a:=⟨a,0,Z⟩) (b:=⟨b,0,Z⟩) (λh=>e (Z1 Addr.block h)) E Y,show(a == b)=aL from ZS e]
 have h2:(Op.equal 197 (aM (M ⟨a,0,Z⟩)) (aM (M ⟨b,0,Z⟩))).run PQ w=.ok (a == b) w:=by
  unfold Op.equal Op.maxDepth
  show(Op.equalIn (9999+1) _ _ _).run _ _=_
  unfold Op.equalIn;simp only[iZ,eL (uq Tryz.underlying197),Result.andThen,afl];simp[I]
 simp only[binOp];simp[h2]
theorem XI:(binOp .eql 197 (aM Z) (aM (M ⟨b,0,Z⟩))).run PQ w=.ok (cF aL) w:=by
 have h2:(Op.equal 197 (aM Z) (aM (M ⟨b,0,Z⟩))).run PQ w=.ok aL w:=by
  unfold Op.equal Op.maxDepth
  show(Op.equalIn (9999+1) _ _ _).run _ _=_
  unfold Op.equalIn;simp only[iZ,eL (uq Tryz.underlying197),Result.andThen];rfl
 simp only[binOp];simp[h2]
structure Core(w:U)(nb:Nat)(nm:AL)(os:List PC):Prop where
 named:lQ w nb dE nm
 objs:∀o,o∈os->w.heap[o.blk]? =M (xI o)
 entries:∀p,p∈nm->∃o,o∈os/\p=(o.ch.name,ptr o.blk)
theorem Chs.core(h:Chs w nb vo nm os):Core w nb nm os:=⟨h.named,λo ho=>(h.chans o ho).obj,h.entries⟩
theorem Core.get(h:Core w nb nm os):lZ nm n=Z\/∃o,o∈os/\o.ch.name=n/\lZ nm n=M (ptr o.blk):=by
 cases q:lZ nm n with
 |none=>exact cJ rfl
 |some v=>
  obtain⟨o,ho,e⟩:=h.entries _ (ND q)
  grind
theorem Core.jR(h:Core w nb nm os)(q:jO XS w w')(E:¬XS nb)(h2:∀o,o∈os->¬XS o.blk):Core w' nb nm os:=
 ⟨h.named.of_block (q.block _ h.named.lt E),λo ho=>(q.block _ (dY.1 (h.objs o ho)).1 (h2 o ho)).trans (h.objs o ho),h.entries⟩
theorem Core.drewN(h:Core w nb nm os)(m:Nat):Core (w.drewN m) nb nm os:=⟨h.named.of_block rfl,h.objs,h.entries⟩
theorem sO(s nb:Nat)(i:Nat)(nm:AL)(os:List PC)(o:PC)(w:U)(h:Core w nb nm os)(ho:o∈os)(hs:w.cell? ⟨s,i,Z⟩=M (.map (M nb))):eE PQ 104 #[aM (M ⟨s,i,Z⟩),ptr o.blk] w λe w'=>e=bX (.bool (alive nm o))/\∃m,w'=w.drewN m:=by
 have E:=h.objs o ho;have c0:=nT E;have q:=(h.named.of_block (w':=w.drew) rfl).lookup (P:=PQ) (uq Tryz.underlying130) (uq Tryz.underlying22) (XM _) o.ch.name aL;simp only[bU,if_false]at q;obtain⟨r,J⟩:∃r,alive nm o=r:=⟨_,rfl⟩
 rw[J];unfold ptr;obtain I|⟨o',aa,hn,I⟩:=h.get (n:=o.ch.name)
 .rw[I]at q;simp only[Option.getD_none]at q;rw[tZ I]at J;subst J;have Y:=XI (w:=w.drew) (b:=o.blk);clear h ho E I;go_enter (fq Tryz.func104 rfl),Tryz.ntmps104;go_wp2_with fail;go_region
  all_goals
   go_wp2_with fail;go_ret;exact⟨rfl,1,rfl⟩
 .rw[I]at q;simp only[fH]at q;unfold ptr at q;rw[qB I]at J;have Y:=agi (w:=w.drew) (h.objs o' aa) E;rw[J]at Y;clear h ho E I J;go_enter (fq Tryz.func104 rfl),Tryz.ntmps104;go_wp2_with fail;go_region
  all_goals
   go_wp2_with fail;go_ret;exact⟨rfl,1,rfl⟩
end
open Dv (Cf X2 Tx)
open Fr (below_drewN)
section
variable {w:U}
abbrev PU:=X2×aD×aD
variable {ps:List PU}
def mO(p:PU):List aD:=[N X p.1.id,N X p.1.time,p.2.1,p.2.2]
def nK(w:U)(v:aD)(ps:List PU):Prop:=Rd w 4 v ps.length (ps.flatMap mO)/\∀p,p∈ps->pR w p.1 p.2.1 p.2.2
theorem nK.below{w':U}{v:aD}(h:nK w v ps)(q:Below w.heap.size w w'):nK w' v ps:=⟨Rd.below h.1 q,λp hp=>(h.2 p hp).below q⟩
theorem nK.get{g off cap:Nat}(h:nK w (aR (M ⟨g,off,Z⟩) ps.length cap) ps){j:Nat}{p:PU}(q:ps[j]? =M p):w.cell? ⟨g,off+j*4,Z⟩=M (N X p.1.id)/\w.cell? ⟨g,off+j*4+1,Z⟩=M (N X p.1.time)/\w.cell? ⟨g,off+j*4+2,Z⟩=M p.2.1/\w.cell? ⟨g,off+j*4+3,Z⟩=M p.2.2:=by
 have k:=λi u hi (E:(mO p)[i]? =M u)=>Rd.rec mO 4 (λ_=>rfl) h.1 q hi E;exact⟨k 0 _ aA rfl,k 1 _ aA rfl,k 2 _ aA rfl,k 3 _ aA rfl⟩
theorem KR(us:List X2)(i:Nat)(u:X2)(E:us[i]? =M u)(b:Option Int):Dv.kK b (us.drop i)=(Dv.lX b u&&Dv.kK (M u.time) (us.drop (i+1))):=by obtain⟨q,rfl⟩:=aN.1 E;rw[List.drop_eq_getElem_cons q,Dv.kK]
theorem SE(us:List X2)(i:Nat)(h:us.length<=i)(b:Option Int):Dv.kK b (us.drop i)=bB:=by rw[List.drop_eq_nil_of_le h,Dv.kK]
theorem IZ(v:aD)(ps:List PU)(w:U)(h:nK w v ps)(hl:ps.length<=4294967296):eE PQ 37 #[v] w λe w'=>e=bX (.bool (Dv.jY (ps.map cG)))/\Below w.heap.size w w':=by
 obtain⟨r,hr⟩:∃r,Dv.jY (ps.map cG)=r:=⟨_,rfl⟩
 rw[hr]
 have hd:Dv.jY (ps.map cG)=((decide ((1:Int)<=ps.length)&&decide ((ps.length:Int)<=60))&&Dv.kK Z (ps.map cG)):=by
  unfold Dv.jY;rw[bC,Bool.decide_and]
  congr 2
  .exact decide_eq_decide.2 aA
  .exact decide_eq_decide.2 aA
 rw[hr]at hd;have c1:=λW=>mZ ps.length 1 60 W;obtain⟨b1,ae⟩:∃b,(decide ((1:Int)<=ps.length)&&decide ((ps.length:Int)<=60))=b:=⟨_,rfl⟩
 rw[ae]at c1 hd;have C1:Hid _:=c1;clear c1 hr;cases b1
 .obtain⟨a,cap,rfl⟩:=Rd.slice h.1;have Hd:Hid _:=hd;clear hd ae h;go_enter (fq Tryz.func37 rfl),Tryz.ntmps37;go_wp2_with (go_at_call 66;refine aT (C1.out _) ?_;rintro e w2 ⟨rfl,Y⟩;obtain rfl:=Y.symm)
  go_ret;exact⟨by rw[Hd.out];rfl,aJ _ _⟩
 .have h1:1<=ps.length/\ps.length<=60:=by
   simp only[dF,Z3]at ae;omega
  obtain⟨g,off,cap,rfl,a4,hg,_⟩:=Rd.pos h.1 aA;obtain⟨p0,J⟩:∃p,ps[0]? =M p:=⟨_,aO aA⟩
  obtain⟨k0,k1,k2,k3⟩:=h.get J;simp only[Nat.zero_mul,Nat.add_zero]at k0 k1 k2 k3;have ai:(ps.map cG)[0]? =M p0.1:=by rw[fE,J];rfl
  have c2:=λW hb=>first_any _ _ _ W ((h.2 p0 (aX J)).below hb);have af:=KR _ 0 _ ai Z;rw[List.drop_zero,QO]at af;rw[af]at hd;obtain⟨b2,I⟩:∃b,wU p0.1=b:=⟨_,rfl⟩
  rw[I]at c2 hd;unfold O8 at c2;obtain⟨ta,tc,ab⟩:=Rd.slice (h.2 p0 (aX J)).1;obtain⟨la,lc,ac⟩:=Rd.slice (h.2 p0 (aX J)).2.1;rw[ab]at c2 k2;rw[ac]at c2 k3;have C2:Hid _:=c2;have a1:(1:Int)<=ps.length:=aA
  have a3:(ps.length:Int)<=cap:=aA
  have ay:(0:Int)<ps.length:=aA
  cases b2
  .have Hd:Hid _:=hd;clear hd ae h c2 af ai ab ac J;go_enter (fq Tryz.func37 rfl),Tryz.ntmps37;go_wp2_with (first|(go_at_call 66;refine aT (C1.out _) ?_;rintro e w2 ⟨rfl,Y⟩;obtain rfl:=Y.symm)|(go_at_call 67;refine aT (C2.out _ ?_) ?_;exact aJ _ _;rintro e w2 ⟨rfl,I⟩)|fail)
   go_ret;exact⟨by rw[Hd.out];rfl,I⟩
  .have ao:0<=p0.1.time/\p0.1.time<=1000000:=by
    unfold wU at I;simp only[dF,Z3]at I;exact I.1
   by_cases ar:cap=1
   .have av:ps.length=1:=by omega
    have hr:r=bB:=by
     rw[hd,SE _ _ (by rw[bC];omega)];rfl
    subst ar;have Hr:Hid _:=hr;rw[av]at C1⊢;clear hd ae h c2 af ai ab ac J ao hr;go_enter (fq Tryz.func37 rfl),Tryz.ntmps37;go_wp2_with (first|(go_at_call 66;refine aT (C1.out _) ?_;rintro e w2 ⟨rfl,Y⟩;obtain rfl:=Y.symm)|(go_at_call 67;refine aT (C2.out _ ?_) ?_;exact aJ _ _;rintro e w2 ⟨rfl,I⟩)|fail)
    have am:Hid _:=I;clear I;go_loopg [3,4,19] 0 (λgg _ _ ak wx=>ak=N X 0/\wx=w2)
    case atStart=>exact⟨rfl,rfl⟩
    case round=>
     obtain⟨rfl,rfl⟩:=hrel;go_wp2_with fail;go_ret;exact⟨by rw[Hr.out];rfl,am.out⟩
   .have Hd:Hid _:=hd;have H:Hid _:=jD h (jD J ao);clear hd ae h c2 af ai ab ac J ao;go_enter (fq Tryz.func37 rfl),Tryz.ntmps37;go_wp2_with (first|(go_at_call 66;refine aT (C1.out _) ?_;rintro e w2 ⟨rfl,Y⟩;obtain rfl:=Y.symm)|(go_at_call 67;refine aT (C2.out _ ?_) ?_;exact aJ _ _;rintro e w2 ⟨rfl,I⟩)|fail)
    have am:Hid _:=I;clear I k0 k1 k2 k3;go_loopg [3,4,19] ps.length (λgg _ _ ak wx=>∃(i:Nat)(p:PU),i+1<=ps.length/\ak=N X i/\gg=ps.length-i/\Hid (ps[i]? =M p/\(0<=p.1.time/\p.1.time<=1000000+24*i)/\r=Dv.kK (M p.1.time) ((ps.map cG).drop (i+1))/\Below w.heap.size w wx))
    case atStart=>exact⟨0,p0,aA,rfl,rfl,H.out.2.1,by have:=H.out.2.2;omega,by rw[Hd.out];simp,am.out⟩
    case round=>
     obtain⟨i,p,hi,rfl,rfl,HI⟩:=hrel;obtain⟨hp,aj,ag,aa⟩:=HI.out;by_cases aw:i+1<ps.length
     .obtain⟨q,hq⟩:∃q,ps[i+1]? =M q:=⟨_,aO aw⟩
      have hU:=H.out.1.below aa;obtain⟨k0,k1,k2,k3⟩:=hU.get hq;obtain⟨_,kt,_,_⟩:=hU.get hp;rw[show off+(i+1)*4=off+4+i*4 from by omega]at k0 k1 k2 k3;obtain⟨ta,tc,ab⟩:=Rd.slice (hU.2 q (aX hq)).1;obtain⟨la,lc,ac⟩:=Rd.slice (hU.2 q (aX hq)).2.1;have c3:=λW hb=>next_any p.1.time _ _ _ W ((hU.2 q (aX hq)).below hb) aA;have ah:=KR (ps.map cG) (i+1) q.1 (by rw[fE,hq];rfl) (M p.1.time);rw[Vs]at ah;obtain⟨b3,an⟩:∃b,zM p.1.time q.1=b:=⟨_,rfl⟩
      rw[an]at c3 ah;unfold O8 at c3;rw[ab]at c3 k2;rw[ac]at c3 k3;obtain⟨W,hW,E,-⟩:=jI wr #[N X q.1.id,N X q.1.time,.slice ta q.1.txs.length tc,.slice la q.1.logs.length lc] 42;have a5:=(E.cell (p:=⟨g,_,Z⟩) (by have:=aa.size;show g<_;omega)).trans kt;have z0:W.cell? ⟨wr.heap.size,0,Z⟩=M (N X q.1.id):=by rw[hW];simp
      have z1:W.cell? ⟨wr.heap.size,1,Z⟩=M (N X q.1.time):=by rw[hW];simp
      have z2:W.cell? ⟨wr.heap.size,2,Z⟩=M (.slice ta q.1.txs.length tc):=by rw[hW];simp
      have z3:W.cell? ⟨wr.heap.size,3,Z⟩=M (.slice la q.1.logs.length lc):=by rw[hW];simp
      have C3:Hid _:=c3;have aq:Hid _:=jD ah (jD ag (jD hq (jD aa (jD an (jD aj E)))));have ax:(i:Int)<ps.length-1:=aA
      have az:(i:Int)<ps.length:=aA
      clear c3 ah ag hq ab ac hU hp aa an aj;have au:i<ps.length-1:=aA
      go_upto_region 6 with fail;rw[<-hW];clear hW;have a2:=aJ W.heap.size W;cases b3
      .go_region_with (go_at_call 68;(refine aT (C3.out _ ?_) ?_;(first|exact E|exact E.drew|exact below_drewN E _);rintro e w5 ⟨rfl,ap⟩))
       all_goals
        go_wp2_with fail;go_ret;obtain⟨q1,q2,q3,q4,q5,q6,q7⟩:=aq.out;refine⟨by rw[q2,q1];rfl,q4.trans ((Below.trans ?_ (ap.mono ?_)).mono q4.size)⟩
        .first|exact E|exact E.drew|exact below_drewN E _
        .first|exact E.size|exact E.drew.size|exact(below_drewN E _).size
      .go_region_with (go_at_call 68;(refine aT (C3.out _ ?_) ?_;(first|exact E|exact E.drew|exact below_drewN E _);rintro e w5 ⟨rfl,ap⟩))
       all_goals
        go_wp2_with fail;go_roundg (ps.length-(i+1))
        case measure=>omega
        case rel=>
         obtain⟨q1,q2,q3,q4,q5,q6,q7⟩:=aq.out;refine⟨_,q,aA,by go_num,rfl,q3,?_,by rw[q2,q1];rfl,q4.trans ((Below.trans ?_ (ap.mono ?_)).mono q4.size)⟩
         .unfold zM at q5;simp only[dF,Z3]at q5;omega
         .first|exact E|exact E.drew|exact below_drewN E _
         .first|exact E.size|exact E.drew.size|exact(below_drewN E _).size
     .have au:¬i<ps.length-1:=by omega
      clear hp aj ag aa;go_wp2_with fail;go_ret;obtain⟨hp,aj,ag,aa⟩:=HI.out;refine⟨?_,aa⟩;rw[ag,SE _ _ (by rw[bC];omega)];rfl
end
open Dv (X2 Cf Ba Ch)
section
variable {v vo:aD}{s n nb:Nat}{xs:List aD}
structure kF(XS:Nat->Prop)(w w':U):Prop where
 size:w.heap.size<=w'.heap.size
 block:∀k,k<w.heap.size->¬XS k->w'.heap[k]? =w.heap[k]?
section
variable {XS M':Nat->Prop}{w w' w'':U}
theorem jO.h(h:jO XS w w'):kF XS w w':=⟨h.size,h.block⟩
theorem kF.trans(h:kF XS w w')(q:kF M' w' w'')(I:∀k,k<w.heap.size->M' k->XS k):kF XS w w'':=
 ⟨bH h.size q.size,λk hk E=>(q.block k (aP hk h.size) (λe=>E (I k hk e))).trans (h.block k hk E)⟩
theorem kF.mono(h:kF XS w w')(q:∀k,k<w.heap.size->XS k->M' k):kF M' w w':=⟨h.size,λk hk E=>h.block k hk (λe=>E (q k hk e))⟩
theorem kF.heaps{v v':U}(h:kF XS w w')(e:v.heap=w.heap)(q:v'.heap=w'.heap):kF XS v v':=⟨by rw[e,q];exact h.size,λk hk=>by rw[e,q];rw[e]at hk;exact h.block k hk⟩
theorem kF.fake(h:kF XS w w'):∃v,jO XS w v/\v.heap=w'.heap:=⟨{ w' with os:=w.os,tape:=w.tape,output:=w.output },⟨rfl,rfl,rfl,h.size,h.block⟩,rfl⟩
theorem Row.heap{e:Nat}(h:Row w e s v n xs)(q:w'.heap=w.heap):Row w' e s v n xs:=h.kept (λg _=>by rw[q])
theorem Rd.heap(h:Rd w s v n xs)(q:w'.heap=w.heap):Rd w' s v n xs:=h.kept (by grind) (λ_ g _ _=>by rw[q])
theorem sD.heap{kb:Nat}{c:Cf}{vu:aD}{us:List PB}{E:Nat->List (List UInt8)}{vw:aD}{ws:List PW}{cnt ep sq:Nat}(h:sD w kb c vu us E nb vo vw ws cnt ep sq)(q:w'.heap=w.heap):sD w' kb c vu us E nb vo vw ws cnt ep sq:=
 ⟨by rw[q];exact h.obj,h.upper.heap q,h.wait.heap q,λj p hp=>Row.heap (h.deps j p hp) q,λp hp=>Row.heap (h.txs p hp) q⟩
theorem ChanAt.heap{o:PC}(h:ChanAt w o)(q:w'.heap=w.heap):ChanAt w' o:=⟨by rw[q];exact h.obj,h.fine,h.small,h.lastLt,λe=>by
 have s:=h.sound e;obtain⟨B,I,E⟩:=s.map;exact⟨⟨B,I,E.of_block (by rw[q])⟩,s.size,s.room,s.ended,s.last⟩,h.spoilt⟩
theorem Chs.heap{nm:AL}{os:List PC}(h:Chs w nb vo nm os)(q:w'.heap=w.heap):Chs w' nb vo nm os:=⟨h.named.of_block (by rw[q]),h.order.heap q,λo ho=>(h.chans o ho).heap q,h.apart,h.maps,h.far,h.entries⟩
theorem pR.heap{u:X2}{E I:aD}(h:pR w u E I)(q:w'.heap=w.heap):pR w' u E I:=⟨Rd.heap h.1 q,Rd.heap h.2.1 q,h.2.2⟩
theorem qF(q:w'.heap=w.heap)(a:Addr):w'.cell? a=w.cell? a:=by unfold World.cell?;rw[q]
theorem kG.heap(h:kG w)(q:w'.heap=w.heap):kG w':=⟨⟨by rw[qF q];exact h.1.1,by rw[qF q];exact h.1.2.1,by rw[qF q];exact h.1.2.2⟩,⟨by rw[qF q];exact h.2.1,by rw[qF q];exact h.2.2.1,by rw[qF q];exact h.2.2.2⟩⟩
end
end
open Go.RowKit Go.Joins Go.Shelf
open Dv (X2 Cf Ba)
def WX(w:U):(binOp .eql 40 (aR Z 0 0) (aR Z 0 0)).run PQ w=.ok (cF bB) w:=XN
def TU(w:U)(a:Addr)(n c:Nat):(binOp .eql 40 (aR (M a) n c) (aR Z 0 0)).run PQ w=.ok (cF aL) w:=XN
def P5(v:aD)(l:List (List UInt8))(w:U)(h:kX w v l)(hl:l.length<=4294967296):eE PQ 130 #[v] w λe w'=>∃a cap,e=bX (.slice a l.length cap)/\Made w' w.heap.size (.slice a l.length cap) l/\Below w.heap.size w w':=by
 obtain⟨rfl,ap⟩|⟨g,off,cap,ax,rfl,ao,ay,aw,_,_⟩:=h.2
 .obtain rfl:=bP ap;have an:=WX;go_enter (fq Tryz.func130 rfl),Tryz.ntmps130;go_wp2_with fail;go_ret;exact⟨Z,0,rfl,⟨Row.nil _ _ _,by simp[Value.ownBlock]⟩,aJ _ _⟩
 .obtain⟨i0,am,ah,ai,aj⟩:=info_parts uY;have Hi:Hid _:=jD am (jD ah (jD ai aj));obtain⟨W,hW,aa,ho⟩:=jI w #[] 9;have ab:Row W 9 1 (aR (M ⟨w.heap.size,0,Z⟩) 0 0) 0 []:=⟨aC,cK ⟨_,0,0,_,rfl,ho,jE,by unfold maxLen;omega,aC,λj u hj=>by simp at hj⟩⟩
  have Y:∀j u,(l.map lM)[j]? =M u->W.cell? ((⟨g,off,Z⟩:Addr).add j)=M u:=λj u hj=>by
   have:=(Row.below h aa).cell rfl j u hj;unfold Addr.add;split
   .rename_i h0;subst h0;exact this
   .exact this
  have ae:∀u,u∈l.map lM->u.oneCell'=bB:=λu hu=>by
   obtain⟨x,_,rfl⟩:=bM.1 hu;rfl
  have af:(l.map lM).length=l.length*1:=aC
  obtain⟨ac,I⟩:∃ac,ac=l.map lM:=⟨_,rfl⟩
  rw[<-I]at Y ae af;have H:Hid _:=jD aa (jD ho (jD ab (jD Y (jD ae (jD af I)))));have an:=TU;clear aa ho ab Y ae af I h am ah ai aj ao;by_cases hn:l.length=0
  .obtain⟨rfl⟩:l=[]:=bP hn;have ag:ac=[]:=H.out.2.2.2.2.2.2;have av:Hid _:=ag;clear ag hn;go_enter (fq Tryz.func130 rfl),Tryz.ntmps130;go_upto_region 3 with fail;go_wp2_with (first|(at_builtin;rw[<-hW];refine lY _ rfl (.tmp 5) (.tmp 6) 40 rfl 9 i0 1 (uq qS) Hi.out.1 Hi.out.2.2.1 _ 0 0 0 rfl _ 0 cap [] rfl rfl (by intro j u hj;simp at hj) (by intro u hu;simp at hu) aA (by intro j hj;simp at hj) (by intro j;exact aQ H.out.2.1 j) ?_)|go_in)
   go_ret;subst hW;exact⟨_,0,rfl,⟨H.out.2.2.1,λq hq=>by have:M w.heap.size=M q:=hq;cases this;exact jE⟩,H.out.1⟩
  .go_enter (fq Tryz.func130 rfl),Tryz.ntmps130;go_upto_region 3 with fail;go_wp2_with (first|(at_builtin;rw[<-hW];refine kJ _ rfl (.tmp 5) (.tmp 6) 40 rfl 9 i0 _ 1 16 (uq qS) Hi.out.1 Hi.out.2.1 Hi.out.2.2.1 Hi.out.2.2.2 rfl aB _ 0 [] rfl H.out.2.2.1 _ _ cap ac rfl aA H.out.2.2.2.2.2.1 H.out.2.2.2.1 H.out.2.2.2.2.1 (by unfold maxLen;omega) aA ?_;intro g5 au ak w5 J E;have aq:Hid _:=jD J E;clear J E)|go_in)
   go_ret;obtain⟨J,E⟩:=aq.out;obtain⟨aa,ho,ab,Y,ae,af,I⟩:=H.out;rw[fJ,dS,I]at J
   have ar:w.heap.size<=g5:=by
    obtain e|e:=E.own
    .have:M w.heap.size=M g5:=e;cases this;exact jE
    .exact bH aa.size e
   refine⟨_,ak,rfl,⟨J,λq hq=>by have:M g5=M q:=hq;cases this;exact ar⟩,?_⟩;refine aa.trans ⟨E.jR.os,E.jR.tape,E.jR.output,E.jR.size,λq hq=>E.jR.block q (aP hq aa.size) (λe=>?_)⟩;have:M w.heap.size=M q:=e;cases this;omega
def alone(c:Cf)(us:List PB)(cnt ep:Nat):Nat:=if BM us (ep+1)<=lT c us cnt then ep+1 else ep
def zL(kb:Nat)(c:Cf)(us:List PB)(cnt ep:Nat)(w:U)(h:Look w kb c us cnt ep)(aa:ep+1<us.length):eE PQ 125 #[aM (M ⟨kb,0,Z⟩)] w λx w'=>x=bX (N X (alone c us cnt ep:Nat))/\∃m,w'=w.drewN m:=by
 obtain⟨vu,nb,vo,vw,sq,ho,Y⟩:=h.obj;obtain⟨g,off,cap,rfl,ae,hg,hx⟩:=Y.pos aA;obtain⟨p,hp⟩:∃p,us[ep+1]? =M p:=⟨_,aO aa⟩
 have k1:w.cell? ⟨g,off+(ep+1)*3+1,Z⟩=M (N X p.2.1):=by
  have:=Rd.rec qW 3 (λ_=>rfl) Y hp (i:=1) (u:=.int _ _) aA rfl;rw[<-dV]at this;exact this
 have c7:w.cell? ⟨kb,7,Z⟩=M (aR (M ⟨g,off,Z⟩) us.length cap):=nV ho rfl;have ac:w.cell? ⟨kb,12,Z⟩=M (N X ep):=nV ho rfl;have q:=λm=>FU kb c us cnt ep _ (h.drewN m) aA;have ab:(ep:Int)+1<(us.length:Int):=aA
 obtain⟨t,ht⟩:∃t,lT c us cnt=t:=⟨_,rfl⟩
 obtain⟨r,E⟩:∃r,alone c us cnt ep=r:=⟨_,rfl⟩
 rw[E];unfold alone at E;rw[wJ hp,ht]at E;rw[ht]at q;obtain⟨tp,J⟩:∃x,p.2.1=x:=⟨_,rfl⟩
 rw[J]at k1 E;have I:Hid _:=q;have Hr:Hid _:=E;have hl:=h.len;clear h ho Y hx hp q E ht J;go_enter (fq Tryz.func125 rfl),Tryz.ntmps125;go_upto_region 1 with fail;go_quiet ((go_at_call 178;exact Calls.quiet_of (I.out _)));by_cases h1:tp<=t
 .go_wp2_with fail;go_ret;refine⟨?_,_,rfl⟩;rw[<-Hr.out,ZD h1];rfl
 .go_wp2_with fail;go_ret;refine⟨?_,_,rfl⟩;rw[<-Hr.out,Zs aA];rfl
end Hm
