import Derived.Test.YtpibpdpedjinhaaGreatDoorP23
import Derived.LaidEql
import Derived.Laws.Pointers
set_option maxRecDepth 100000
set_option maxHeartbeats 4000000
set_option linter.unusedSimpArgs false
namespace Go.Proofs.YtpibpdpedjinhaaGreatDoor
namespace Hm
open Go.RowKit Go.Joins
open Dv (Ch Fine)
open Fr (F below_drewN)
section
variable {l:List F}{x:F}{k blk B t r cnt nm op n:Nat}{w w0 w1 w2:World}{cs:Array Value}{fz:Nat×Nat}{q:IntKind}{m:AL}{L:Nat->Bool}{sp:Bool}
def upto(n:Nat)(L:Nat->Bool)(x:F):Bool:=decide (x.num<=n) || L x.num
theorem size_cons(x:F)(l:List F):Dv.size (x::l)=x.data.length+Dv.size l:=by simp[Dv.size]
theorem size_drop(Y:(l.map (·.num)).Nodup)(R:x∈l):Dv.size (l.filter (λy=>y.num != x.num))+x.data.length=Dv.size l:=by
 induction l with
 |nil=>simp at R
 |cons y l ih=>
  have E:=iq.1 (by simpa using Y:(y.num::l.map (·.num)).Nodup);rcases bV.1 R with rfl|I
  ·have:l.filter (λy=>y.num != x.num)=l:=iO.2 (λz hz=>by
    simp only[bne_iff_ne,ne_eq];exact λe=>E.1 (bC.2 ⟨z,hz,e⟩))
   rw[dU,if_neg (by simp),this,size_cons];omega
  ·have J:y.num≠x.num:=λe=>E.1 (e ▸ bC.2 ⟨x,I,rfl⟩);rw[dU,if_pos (by simp[J]),size_cons,size_cons];have:=ih E.2 I;omega
theorem Wu(l:List F)(k:Nat):nD (sV l) k=sV (l.filter (λy=>y.num != k)):=by
 unfold nD sV;rw[List.filter_map];rfl
theorem Fa(l:List F)(n k:Nat)(L:Nat->Bool)(hk:n<k):(l.filter (upto n L)).filter (λy=>y.num != k)=l.filter (upto n (λx=>L x&&x != k)):=by
 rw[List.filter_filter]
 congr 1
 funext y;unfold upto;by_cases e:y.num=k
 ·simp[e];omega
 ·have:(y.num != k)=true:=by simp[e]
  show((y.num != k)&&_)=(_ || (L y.num&&(y.num != k)))
  rw[this];simp
theorem FB(l:List F)(n k:Nat)(L:Nat->Bool)(hk:k<=n):l.filter (upto n L)=l.filter (upto n (λx=>L x&&x != k)):=by
 congr 1
 funext y;unfold upto;by_cases e:y.num=k
 ·have:y.num<=n:=by omega
  simp[this]
 ·have:(y.num != k)=true:=by simp[e]
  show _=(_ || (L y.num&&(y.num != k)))
  rw[this];simp
theorem Xu{v:Value}(h:(k,v)∈sV l):∃x,x∈l/\x.num=k/\v=Ie x:=by
 unfold sV at h;obtain⟨x,z,e⟩:=bC.1 h;simp only[dA]at e;exact⟨x,z,e.1,e.2.symm⟩
def lV(nm:Nat)(op:Nat)(fm:Option Nat)(sz:Int)(en:Bool)(z:Nat)(sp:Bool):Array Value:=#[.int .u32 nm,.int .i64 op,.map fm,.int .i64 sz,.bool en,.int .u16 z,.bool sp]
structure oD(w0:World)(blk B nm op n:Nat)(sp:Bool)(l:List F)(r:Nat)(L:Nat->Bool)(cnt:Nat)(w:World):Prop where
 rg:kP w B r .u16 (sV (l.filter (upto n L))) L cnt
 obj:w.heap[blk]? =some (.cells (lV nm op (some B) (Dv.size (l.filter (upto n L))) true n sp) 201 (0,0))
 jO:jJ (λk=>k=blk\/k=B) w0 w
 new:w0.heap.size<=r
theorem kN(h:w.heap[blk]? =some (.cells cs t fz))(z:lu w B q m):blk≠B:=by
 obtain⟨es,c,E,_⟩:=z;intro e;rw[e,E]at h;cases h
theorem wU(h:w.heap[blk]? =some (.cells cs t fz))(I:kP w B r q m L cnt):blk≠r:=by
 obtain⟨es,E,z,seen,c0,R,h2,h3,h4,Y,J,_⟩:=I;intro e;rw[e,J]at h;cases h
theorem oD.came(h:oD w0 blk B nm op n sp l r L cnt w)(E:w.grownBy w1 (some r)):
  w1.heap[blk]? =some (.cells (lV nm op (some B) (Dv.size (l.filter (upto n L))) true n sp) 201 (0,0))/\jJ (λk=>k=blk\/k=B) w0 w1:=by
 have z:=wU h.obj h.rg;refine⟨(E.block blk (jC h.obj) (by simp[z])).trans h.obj,h.jO.trans (.grown E) (λj I e=>?_)⟩;simp at e;subst e;have:=h.new;omega
theorem oD.stay(E:kP w1 B r .u16 (sV (l.filter (upto n L))) (λx=>L x&&x != k) cnt)(I:w1.heap[blk]? =some (.cells (lV nm op (some B) (Dv.size (l.filter (upto n L))) true n sp) 201 (0,0)))
  (J:jJ (λk=>k=blk\/k=B) w0 w1) (R:w0.heap.size<=r) (hk:k<=n) (z:Below w1.heap.size w1 w2):oD w0 blk B nm op n sp l r (λx=>L x&&x != k) cnt w2:=by
 refine⟨?_,?_,J.trans (.below z jA (λ_=>False)) (λ_ _ e=>e.elim),R⟩
 ·rw[<-FB l n k L hk];exact E.Ew (z.block _ E.V7.lt) (z.block _ E.lt)
 ·rw[<-FB l n k L hk];exact(z.block _ (jC I)).trans I
theorem oD.less(z:kP w1 B r .u16 m (λx=>L x&&x != k) cnt){s:Int}(E:w1.heap[blk]? =some (.cells (lV nm op (some B) s true n sp) 201 (0,0)))
  (Y:jJ (λk=>k=blk\/k=B) w0 w1) (I:Below w1.heap.size w1 w2) (s':Int):kP (w2.setCell ⟨blk,3,none⟩ (.int .i64 s')) B r .u16 m (λx=>L x&&x != k) cnt/\(w2.setCell ⟨blk,3,none⟩ (.int .i64 s')).heap[blk]? =some (.cells (lV nm op (some B) s' true n sp) 201 (0,0))/\jJ (λk=>k=blk\/k=B) w0 (w2.setCell ⟨blk,3,none⟩ (.int .i64 s')):=by
 have R:=kN E z.V7;have h2:=wU E z;have J:w2.heap[blk]? =_:=(I.block _ (jC E)).trans E;refine⟨z.Ew ((aP _ _ _ _ (λe=>R e.symm)).trans (I.block _ z.V7.lt)) ((aP _ _ _ _ (λe=>h2 e.symm)).trans (I.block _ z.lt)),?_,?_⟩
 ·have:=jT J 3 (.int .i64 s');simpa[lV]using this
 ·exact(Y.trans (.below I jA (λ_=>False)) (λ_ _ e=>e.elim)).trans (jJ.set w2 blk 3 _) (λk _ e=>.inl e)
theorem oD.gone{w3 w4:World}(hl:(l.map (·.num)).Nodup)(hk:n<k)(hx:x∈l.filter (upto n L))(E:x.num=k)
  (I:w3.heap[blk]? =some (.cells (lV nm op (some B) ((Dv.size (l.filter (upto n L)):Int)-x.data.length) true n sp) 201 (0,0))) (hc:jJ (λk=>k=blk\/k=B) w0 w3) (hn:w0.heap.size<=r)
  (J:kP w4 B r .u16 (nD (sV (l.filter (upto n L))) k) (λx=>(L x&&x != k)&&x != k) cnt) (R:w3.grownBy w4 (some B)) (z:blk≠B):oD w0 blk B nm op n sp l r (λx=>L x&&x != k) cnt w4:=by
 have Y:(λx=>(L x&&x != k)&&x != k)=(λx=>L x&&x != k):=by funext x;cases L x<;>cases(x != k)<;>rfl
 rw[Y,Wu,Fa l n k L hk]at J;refine⟨J,?_,hc.trans (.grown R) (λj _ e=>.inr (by simpa using e.symm)),hn⟩;have hs:=size_drop ((List.filter_sublist.map _).nodup hl) hx;rw[E,Fa l n k L hk]at hs;rw[(R.block blk (jC I) (by simp[z])),I]
 congr 3
 omega
theorem WH{p:F->Bool}(z:x∈l.filter p):x.data.length<=Dv.size (l.filter p):=by
 induction l with
 |nil=>simp at z
 |cons y l ih=>
  rw[dU]at z⊢;split
  ·rename_i h;rw[if_pos h]at z;rw[size_cons];rcases bV.1 z with rfl|z
   ·omega
   ·have:=ih z;omega
  ·rename_i h;rw[if_neg h]at z;exact ih z
theorem VN(blk B nm op n:Nat)(sp en:Bool)(la:Nat)(l:List F)(w:World)(ho:w.heap[blk]? =some (.cells (lV nm op (some B) (Dv.size l) en la sp) 201 (0,0)))(hm:lu w B .u16 (sV l))(hl:(l.map (·.num)).Nodup)(hs:Small l)(aa:Dv.size l<=8589934592):
  Calls PQ 171 #[.pointer (some ⟨blk,0,none⟩),.int .u16 n] w λe w'=>e=.returned (.tuple #[])/\w'.heap[blk]? =some (.cells (lV nm op (some B) (Dv.size (l.filter (λx=>decide (x.num<=n)))) true n sp) 201 (0,0))/\lu w' B .u16 (sV (l.filter (λx=>decide (x.num<=n))))/\jJ (λk=>k=blk\/k=B) w w':=by
 have ai:=kN ho hm;obtain⟨W1,ab⟩:∃W1,W1=(w.setCell ⟨blk,4,none⟩ (.bool true)).setCell ⟨blk,5,none⟩ (.int .u16 n):=⟨_,rfl⟩
 obtain⟨-,-,-,-,c4,c5⟩:=TD ho;have fz:=aI ho
 have z:W1.heap[blk]? =some (.cells (lV nm op (some B) (Dv.size l) true n sp) 201 (0,0)):=by
  rw[ab];have:=jT (jT ho 4 (.bool true)) 5 (.int .u16 n);simpa[lV]using this
 have a2:lu W1 B .u16 (sV l):=hm.of_block (by rw[ab,aP _ _ _ _ (λe=>ai e.symm),aP _ _ _ _ (λe=>ai e.symm)])
 have E:jJ (λk=>k=blk\/k=B) w W1:=by
  rw[ab];exact((jJ.set w blk 4 _).trans (jJ.set _ blk 5 _) (λ_ _ e=>e)).mono (λk _ e=>.inl e)
 obtain⟨-,-,d2⟩:=cells3 z;have H1:Hid _:=jw z (jw E (jw hl (jw hs aa)));have ap:Hid (lu _ _ _ _):=a2;clear ho hm hl hs aa z a2 E;go_enter (fq Tryz.func171 rfl),Tryz.ntmps171;go_upto_region 2 with fail;rw[<-ab];clear ab;go_wp2_with (first|(at_range;refine xw _ rfl _ 199 rfl 79 81 .u16 (uq Tryz.underlying199) B (sV l) rfl ap.out ?_;intro w0 a0 aj a6)|go_in)
 go_frame
 have Y:oD w blk B nm op n sp l W1.heap.size (λk=>decide (k∈(sV l).map Prod.fst)) (sV l).length w0:=by
  have af:l.filter (upto n (λk=>decide (k∈(sV l).map Prod.fst)))=l:=iO.2 (λx hx=>by
   unfold upto;have:x.num∈(sV l).map Prod.fst:=bC.2 ⟨_,bC.2 ⟨x,hx,rfl⟩,rfl⟩;simp only[this,decide_true,Bool.or_true])
  refine⟨by rw[af];exact a0,by rw[af];exact(aj.block _ (jC H1.out.1) (by simp)).trans H1.out.1,H1.out.2.1.trans (.grown aj) (λk _ e=>by simp at e),H1.out.2.1.size⟩
 obtain⟨r,hr⟩:∃r,r=W1.heap.size:=⟨_,rfl⟩
 rw[<-hr]at Y⊢;have ah:Hid (oD _ _ _ _ _ _ _ _ _ _ _ _):=Y;clear Y a0 aj a6 ap d2 hr;go_loopg [4,5] (sV l).length (λgg _ _ wx=>∃L,Hid (oD w blk B nm op n sp l r L gg wx))
 case atStart=>exact⟨_,ah⟩
 case round=>
  obtain⟨L,HE⟩:=hrel;clear ah;go_upto_region 4 with(first|(at_next;refine vZ _ rfl _ rfl B r .u16 _ L _ rfl HE.out.rg ?_ ?_)|go_in)
  ·intro bh an;go_wp2_with fail;go_end0;refine⟨rfl,?_,?_,HE.out.jO⟩
   ·have:=HE.out.obj
    have e:l.filter (upto n L)=l.filter (λx=>decide (x.num<=n)):=by
     congr 1;funext x;unfold upto;rw[an];simp
    rw[e]at this;exact this
   ·have:=HE.out.rg.V7
    have e:l.filter (upto n L)=l.filter (λx=>decide (x.num<=n)):=by
     congr 1;funext x;unfold upto;rw[an];simp
    rw[e]at this;exact this
  ·intro k v w1 a3 a5 ag ar I av aw a8 ae;obtain⟨x,hx,aq,rfl⟩:=Xu ag;obtain⟨z,E⟩:=HE.out.came aw;obtain⟨xc,xn,xd,xl⟩:=x;simp only at aq;subst aq;unfold Ie at ae⊢;dsimp only at ae⊢;obtain⟨D,hD⟩:∃D:ByteArray,(⟨xd.toArray⟩:ByteArray)=D:=⟨_,rfl⟩
   have R:D.size=xd.length:=by rw[<-hD];rfl
   rw[hD]at ae⊢;obtain⟨W2,ac,J,-⟩:=jE w1 #[.int .u32 xc,.int .u16 xn,.string D,.bool xl] 81;have z2:W2.cell? ⟨w1.heap.size,2,none⟩=some (.string D):=by rw[ac];simp
   have a7:blk<w1.heap.size:=(jC z)
   have ak:W2.heap[blk]? =_:=(J.block _ a7).trans z;obtain⟨S,hS⟩:∃S:Nat,S=Dv.size (l.filter (upto n L)):=⟨_,rfl⟩
   have bg:D.size<=S:=by rw[R,hS];exact WH hx
   have bj:S<=8589934592:=by rw[hS];exact aW (Dv.size_filter_le _ _) H1.out.2.2.2.2
   have y3:W2.cell? ⟨blk,3,none⟩=some (.int .i64 S):=by rw[aA ak,hS];rfl
   have bk:=aI ak;have bd:w1.heap.size<W2.heap.size:=by rw[ac];simp
   have HX:Hid _:=jw hx (jw I (jw z (jw E (jw J (jw hS R)))));clear hx I z E J ag ar aw a8 ak hS hD R a5;go_upto_region 5 with fail;rw[<-ac];clear ac ae;by_cases hk:xn<=n
   ·have a4:¬(n:Int)<xn:=by omega
    go_wp2_with fail;go_roundg a3
    case measure=>exact av
    case rel=>
     obtain⟨hx,I,z,E,J,hS,R⟩:=HX.out;exact⟨_,oD.stay I z E HE.out.new hk J⟩
   ·have a4:(n:Int)<xn:=by omega
    have ba:blk≠w1.heap.size:=by omega
    go_upto_region 6 with fail;go_cut [29] (λv wx=>Hid (∃W5,Below w1.heap.size w1 W5/\wx=W5.setCell ⟨blk,3,none⟩ (.int .i64 ((S:Int)-D.size))))
    case first=>
     go_region
     all_goals
      go_wp2_with fail;go_meet;exact⟨W2.drew,HX.out.2.2.2.2.1.drew,rfl⟩
    case rest=>
     obtain⟨W5,a9,rfl⟩:=hcut.out;obtain⟨hx,I,z,E,J,hS,R⟩:=HX.out;obtain⟨q1,q2,q3⟩:=oD.less I z E a9 ((S:Int)-D.size);obtain⟨W6,am⟩:∃W6,W6=W5.setCell ⟨blk,3,none⟩ (.int .i64 ((S:Int)-D.size)):=⟨_,rfl⟩
     rw[<-am]at q1 q2 q3⊢;obtain⟨-,-,y2⟩:=cells3 q2;have HQ:Hid _:=jw q1 (jw q2 q3);clear hx I z E J hS R q1 q2 q3 am hcut;go_wp2_with (first|(at_delete;(refine uh _ rfl _ _ 199 79 rfl 81 .u16 (uq Tryz.underlying199) (uq Tryz.underlying79) B r _ _ _ xn rfl rfl HQ.out.1 ?_;intro w7 ao au bb az a1;have ax:Hid _:=jw au (jw az a1);clear au az a1;go_frame))|go_in)
     go_roundg ao
     case measure=>omega
     case rel=>
      obtain⟨hx,I,z,E,J,hS,R⟩:=HX.out;have ay:=HQ.out.2.1;rw[hS,R]at ay;exact⟨_,oD.gone (k:=xn) H1.out.2.2.1 (by omega) hx rfl ay HQ.out.2.2 HE.out.new ax.out.1 ax.out.2.1 ai⟩
end
section
variable {l:List F}{f:F}{c:Ch}{w0 w w':World}{blk B nm op s la:Nat}{en:Bool}
theorem WJ(h:f.num∉l.map (·.num)):uU (sV l) f.num (Ie f)=sV (l++[f]):=by
 unfold uU
 have:f.num∉(sV l).map Prod.fst:=by
  unfold sV;rw[jq];exact h
 rw[if_neg this];unfold sV;simp
theorem Q8(z:f.last=true):Dv.grown c f=(c.l++[f]).filter (λx=>decide (x.num<=f.num)):=by
 unfold Dv.grown
 congr 1
 funext x;unfold Dv.goes;rw[z,Bool.true_and,<-decide_not];exact decide_eq_decide.2 (by omega)
theorem IU(z:f.last=false):Dv.grown c f=c.l++[f]:=by
 unfold Dv.grown;refine iO.2 (λx _=>?_);unfold Dv.goes;rw[z];simp
theorem Jq(h:Small c.l)(E:f.num<65536/\f.data.length<=65536):Small (Dv.grown c f):=by
 intro x z;unfold Dv.grown at z;rcases dG.1 (fK.1 z).1 with z|z
 ·exact h x z
 ·rw[dD.1 z];exact E
theorem G8(h:f.num∉l.map (·.num))(I:(l.map (·.num)).Nodup):((l++[f]).map (·.num)).Nodup:=by
 rw[aY];refine List.nodup_append.2 ⟨I,by simp,λa E b z e=>?_⟩;simp at z;subst z;exact h (e ▸ E)
structure ql(w0:World)(blk B nm op:Nat)(l:List F)(s:Nat)(en:Bool)(la:Nat)(w:World):Prop where
 obj:w.heap[blk]? =some (.cells (lV nm op (some B) s en la false) 201 (0,0))
 map:lu w B .u16 (sV l)
 jO:jJ (λk=>k=blk\/k=B) w0 w
theorem ql.kept(h:ql w0 blk B nm op l s en la w)(z:Below w.heap.size w w'):ql w0 blk B nm op l s en la w':=
 ⟨(z.block _ (jC h.obj)).trans h.obj,h.map.of_block (z.block _ h.map.lt),h.jO.trans (.below z jA (λ_=>False)) (λ_ _ e=>e.elim)⟩
theorem ql.put{l':List F}(h:ql w0 blk B nm op l s en la w)(I:lu w' B .u16 (sV l'))(E:w.grownBy w' (some B)):ql w0 blk B nm op l' s en la w':=by
 have z:=kN h.obj h.map;exact⟨(E.block _ (jC h.obj) (by simp[z])).trans h.obj,I,h.jO.trans (.grown E) (λk _ e=>.inr (by simpa using e.symm))⟩
theorem ql.size(h:ql w0 blk B nm op l s en la w)(s':Nat):ql w0 blk B nm op l s' en la (w.setCell ⟨blk,3,none⟩ (.int .i64 s')):=by
 have z:=kN h.obj h.map;refine⟨?_,h.map.of_block (aP _ _ _ _ (λe=>z e.symm)),h.jO.trans (jJ.set w blk 3 _) (λk _ e=>.inl e)⟩;have:=jT h.obj 3 (.int .i64 s');simpa[lV]using this
theorem ql.Yq(h:ql w0 blk B nm op l s en la w)(z:la<65536):ChanAt ((w.setCell ⟨blk,6,none⟩ (.bool true)).setCell ⟨blk,2,none⟩ (.map none)) ⟨blk,none,⟨nm,op,[],true⟩,s,en,la⟩/\jJ (λk=>k=blk\/k=B) w0 ((w.setCell ⟨blk,6,none⟩ (.bool true)).setCell ⟨blk,2,none⟩ (.map none)):=by
 refine⟨⟨?_,Dv.I9,λx E=>by simp at E,z,λh=>by simp at h,λ_=>⟨rfl,rfl⟩⟩,(h.jO.trans (jJ.set w blk 6 _) (λk _ e=>.inl e)).trans (jJ.set _ blk 2 _) (λk _ e=>.inl e)⟩;have:=jT (jT h.obj 6 (.bool true)) 2 (.map none);simpa[lV,vH]using this
theorem ql.sound(h:ql w0 blk B nm op l s en la w)(z:la<65536)(I:Fine l)(hs:Small l)(R:en=(Dv.last l).isSome)(J:∀n,Dv.last l=some n->la=n)(E:s=Dv.size l)(Y:Dv.size l<=4294967296):ChanAt w ⟨blk,some B,⟨nm,op,l,false⟩,s,en,la⟩:=
 ⟨h.obj,I,hs,z,λ_=>⟨⟨B,rfl,h.map⟩,by simp[E],Y,R,J⟩,λh=>by simp at h⟩
theorem RJ(o:PC)(f:F)(most:Int)(w:World)(h:ChanAt w o)(hb:Dv.nS o.ch f=false)(hf:f.num<65536/\f.data.length<=65536)(bg:0<=most/\most<=4294967296):
  Calls PQ 114 #[.pointer (some ⟨o.blk,0,none⟩),Ie f,.int .i64 most] w λe w'=>e=.returned (.tuple #[])/\∃o':PC,o'.blk=o.blk/\o'.ch=Dv.joined most o.ch f/\(o'.fm=o.fm\/o'.fm=none)/\ChanAt w' o'/\jJ (λk=>k=o.blk\/o.fm=some k) w w':=by
 obtain⟨b1,b2,b3⟩:=Dv.yO hb;obtain⟨blk,fm,⟨nm,op,l,sp⟩,sz,en,la⟩:=o;dsimp only at b1 b2 b3⊢;subst b2;obtain⟨⟨B,hB,hm⟩,a1,aj,ah,ag⟩:=h.sound rfl;dsimp only at hB hm a1 ah ag aj;subst hB a1;obtain⟨c1,bb⟩:∃c:Ch,c=⟨nm,op,l,false⟩:=⟨_,rfl⟩
 have E:=Dv.KN h.fine hb;have I:=Jq h.small hf;have z:=Dv.AO hb
 have hj:Dv.joined most ⟨nm,op,l,false⟩ f=(if most<(Dv.size (Dv.grown ⟨nm,op,l,false⟩ f):Int)then⟨nm,op,[],true⟩else⟨nm,op,Dv.grown ⟨nm,op,l,false⟩ f,false⟩):=by
  unfold Dv.joined;rw[hb];rfl
 obtain⟨fc,fn,fd,ac⟩:=f;unfold Ie;dsimp only at *;obtain⟨D,hD⟩:∃D:ByteArray,(⟨fd.toArray⟩:ByteArray)=D:=⟨_,rfl⟩
 have af:D.size=fd.length:=by rw[<-hD];rfl
 rw[hD];obtain⟨W,hW,a7,-⟩:=jE w #[.int .u32 fc,.int .u16 fn,.string D,.bool ac] 81;have hk:ql w blk B nm op l (Dv.size l) en la W:=ql.kept ⟨h.obj,hm,jJ.refl _ _⟩ a7;have av:ql w blk B nm op l (Dv.size l) en la W.drew:=hk.kept (aB _ W).drew;obtain⟨w2,Y,ap,ax,a9⟩:=av.map.update (P:=PQ) (uq Tryz.underlying199) (uq Tryz.underlying79) fn (Ie ⟨fc,fn,fd,ac⟩);have ak:=WJ (l:=l) (f:=⟨fc,fn,fd,ac⟩) b1;dsimp only at ak;rw[ak]at ap;have aa:=av.put ap ax;unfold Ie at Y;dsimp only at Y;rw[hD]at Y;have bh:blk<w.heap.size:=(jC h.obj)
 obtain⟨-,-,e2⟩:=cells3 hk.obj;have ba:w.heap.size<W.heap.size:=by rw[hW];simp
 have zo:W.heap[w.heap.size]? =some (.cells #[.int .u32 fc,.int .u16 fn,.string D,.bool ac] 81 (0,0)):=by rw[hW];exact heap_alloc_new _ _
 obtain⟨z0,z1,z2,z3⟩:=cells4 zo;have ab:w2.heap[w.heap.size]? =_:=(ax.block w.heap.size (show _<W.heap.size from ba) (by simp;have:=hm.lt;omega)).trans zo;obtain⟨-,y1,y2,y3⟩:=cells4 ab;have x3:w2.cell? ⟨blk,3,none⟩=some (.int .i64 (Dv.size l:Int)):=nM aa.obj rfl;have fz:=aI aa.obj;obtain⟨S,hS⟩:∃S,Dv.size l=S:=⟨_,rfl⟩
 have J:Dv.size (l++[⟨fc,fn,fd,ac⟩])=S+D.size:=by rw[Dv.size_append,hS,af]
 rw[hS]at x3 aa aj;have bj:D.size<=65536:=by rw[af];exact hf.2
 have H:Hid _:=jw h (jw E (jw I (jw z (jw aa (jw J (jw ah (jw ag (jw hb (jw b1 (jw b3 (jw hf (jw ab (jw af hj)))))))))))));have a8:blk≠w.heap.size:=by omega
 clear h E I z hk av aa J ah ag b1 b3 hm ap ax a9 ak hj bb a7 hS hD hb hf zo ab c1 af;go_enter (fq Tryz.func114 rfl),Tryz.ntmps114;go_upto_region 1 with fail;rw[<-hW];clear hW;go_cut [12] (λ_ wx=>wx=w2)
 case first=>
  go_region
  all_goals
   go_wp2_with fail;go_meet;rfl
 case rest=>
  subst hcut;clear e2 z0 z1 z2 z3 Y;go_upto_region 2 with fail;go_cut [16] (λ_ wx=>Hid (∃W5,Below wc.heap.size wc W5/\wx=W5.setCell ⟨blk,3,none⟩ (.int .i64 ((S+D.size:Nat):Int))))
  case first=>
   go_region
   all_goals
    go_wp2_with fail;go_meet;exact⟨wc.drew,(aB _ _).drew,by rw[Int.natCast_add];rfl⟩
  case rest=>
   obtain⟨W5,an,rfl⟩:=hcut.out;obtain⟨h,E,I,z,aa,J,ah,ag,hb,b1,b3,hf,ab,af,hj⟩:=H.out;have R:=(aa.kept an).size (S+D.size);have am:(W5.setCell ⟨blk,3,none⟩ (.int .i64 ((S+D.size:Nat):Int))).heap[w.heap.size]? =_:=((aP _ _ _ _ a8.symm).trans (an.block _ (jC ab))).trans ab;obtain⟨W6,ao⟩:∃W6,W6=W5.setCell ⟨blk,3,none⟩ (.int .i64 ((S+D.size:Nat):Int)):=⟨_,rfl⟩
   rw[<-ao]at R am⊢;obtain⟨-,y1,-,y3⟩:=cells4 am;have ay:=G8 (l:=l) (f:=⟨fc,fn,fd,ac⟩) b1 h.fine.apart;cases ac
   ·have hg:=IU (c:=⟨nm,op,l,false⟩) (f:=⟨fc,fn,fd,false⟩) rfl;dsimp only at hg;rw[hg]at E I z hj;rw[J]at hj;have x3:W6.cell? ⟨blk,3,none⟩=some (.int .i64 ((S+D.size:Nat):Int)):=nM R.obj rfl;obtain⟨-,-,x2,-,-,-,x6⟩:=MF R.obj;have bd:=aI R.obj;have H6:Hid _:=jw R (jw E (jw I (jw z (jw h.lastLt (jw ah (jw ag (jw J hj)))))));clear h E I z aa J ah ag hb b1 b3 hf ab R am ao an hcut hg ay fz af hj;by_cases ar:most<((S+D.size:Nat):Int)
    ·have a0:most<(S:Int)+(D.size:Int):=by omega
     go_wp2_with fail;go_end0;obtain⟨q1,q2⟩:=ql.Yq H6.out.1 H6.out.2.2.2.2.1;obtain⟨k5,k1,k2,k3,k4,k6,k7,k8,kj⟩:=H6.out;rw[if_pos ar]at kj;exact⟨rfl,_,rfl,kj.symm,.inr rfl,q1,q2.mono (λk _ e=>e.imp id (λe=>by rw[e]))⟩
    ·have a0:¬most<(S:Int)+(D.size:Int):=by omega
     go_wp2_with fail;go_end0;obtain⟨k5,k1,k2,k3,k4,k6,k7,k8,kj⟩:=H6.out;rw[if_neg (by omega)]at kj;simp only[bJ,if_false,Option.or_none]at k3;refine⟨rfl,_,rfl,kj.symm,.inl rfl,ql.sound k5 k4 k1 k2 (by rw[k3];exact k6) (λn hn=>k7 n (by rw[<-k3];exact hn)) k8.symm (by omega),k5.jO.mono (λk _ e=>e.imp id (λe=>by rw[e]))⟩
   ·have hg:=Q8 (c:=⟨nm,op,l,false⟩) (f:=⟨fc,fn,fd,true⟩) rfl;dsimp only at hg;rw[hg]at E I z hj
    have ae:=VN blk B nm op fn false en la (l++[⟨fc,fn,fd,true⟩]) W6 (by rw[J];exact R.obj) R.map ay (λx hx=>by
     rcases dG.1 hx with hx|hx
     ·exact h.small x hx
     ·rw[dD.1 hx];exact hf) (by rw[J];omega)
    obtain⟨l2,au⟩:∃l2:List F,l2=(l++[(⟨fc,fn,fd,true⟩:F)]).filter (λx=>decide (x.num<=fn)):=⟨_,rfl⟩
    rw[<-au]at ae E I z hj;have aq:Hid _:=λ(_:Unit)=>ae
    have a2:Dv.last l=none:=by
     cases hx:Dv.last l with
     |none=>rfl
     |some n=>have:=(b3 n hx).1;cases this
    have a5:Dv.size l2<=S+D.size:=by rw[au,<-J];exact Dv.size_filter_le _ _
    obtain⟨S2,a6⟩:∃S2,Dv.size l2=S2:=⟨_,rfl⟩
    rw[a6]at a5 hj;have H6:Hid _:=jw R (jw E (jw I (jw z (jw hf.1 (jw a2 (jw a6 hj))))));clear h E I z aa J ah ag hb b1 b3 hf ab R am ao an hcut hg ay fz af hj ae au a2;go_upto_region 5 with(first|(go_at_call 171;refine aK (aq.out ()) ?_;rintro e w7 ⟨rfl,ai,a3,a4⟩)|go_in)
    obtain⟨k5,k1,k2,k3,k4,k6,kS,kj⟩:=H6.out;rw[kS]at ai;have az:ql w blk B nm op l2 S2 true fn w7:=⟨ai,a3,k5.jO.trans a4 (λ_ _ e=>e)⟩
    have x3:w7.cell? ⟨blk,3,none⟩=some (.int .i64 (S2:Int)):=nM ai rfl;obtain⟨-,-,x2,-,-,-,x6⟩:=MF ai;have bk:=aI ai;have aw:Hid (ql _ _ _ _ _ _ _ _ _ _):=az;clear ai a3 a4 az k5 k1 k2 k3 k4 k6 kS kj;by_cases ar:most<(S2:Int)
    ·go_wp2_with fail;go_end0;obtain⟨k5,k1,k2,k3,k4,k6,kS,kj⟩:=H6.out;obtain⟨q1,q2⟩:=ql.Yq aw.out k4;rw[if_pos ar]at kj;exact⟨rfl,_,rfl,kj.symm,.inr rfl,q1,q2.mono (λk _ e=>e.imp id (λe=>by rw[e]))⟩
    ·go_wp2_with fail;go_end0;obtain⟨k5,k1,k2,k3,k4,k6,kS,kj⟩:=H6.out;rw[if_neg (by omega)]at kj;rw[k6]at k3;simp only[if_true,Option.none_or]at k3;refine⟨rfl,_,rfl,kj.symm,.inl rfl,ql.sound aw.out k4 k1 k2 (by rw[k3];rfl) (λn hn=>by rw[k3]at hn;exact eP hn) kS.symm (by omega),aw.out.jO.mono (λk _ e=>e.imp id (λe=>by rw[e]))⟩
end
section
variable {k nb n b:Nat}{M:Nat->Prop}{w w':World}{o:PC}{vo:Value}{nm:AL}{os:List PC}
def ptr(b:Nat):Value:=.pointer (some ⟨b,0,none⟩)
structure Chs(w:World)(nb:Nat)(vo:Value)(nm:AL)(os:List PC):Prop where
 named:lu w nb .u32 nm
 order:Row w 197 1 vo os.length (os.map λo=>ptr o.blk)
 chans:∀o,o∈os->ChanAt w o
 apart:(os.map (·.blk)).Nodup
 maps:∀o o',o∈os->o'∈os->∀b,o.fm=some b->o'.fm=some b->o.blk=o'.blk
 far:∀o,o∈os->o.fm≠some nb
 entries:∀p,p∈nm->∃o,o∈os/\p=(o.ch.name,ptr o.blk)
def Own(nb:Nat)(vo:Value)(os:List PC)(k:Nat):Prop:=k=nb\/vo.ownBlock=some k\/∃o,o∈os/\(k=o.blk\/o.fm=some k)
def alive(nm:AL)(o:PC):Bool:=match lM nm o.ch.name with
 |some (.pointer (some a))=>a.block == o.blk
 |_=>false
def lives(nm:AL)(os:List PC):List Ch:=(os.filter (alive nm)).map (·.ch)
theorem JG{m:AL}{v:Value}(h:lM m k=some v):(k,v)∈m:=by
 unfold lM at h;rw[aX]at h;obtain⟨p,hp,rfl⟩:=h;have z:=List.find?_some hp;have h2:=List.mem_of_find?_eq_some hp;simp only[beq_iff_eq]at z;rw[<-z];exact h2
theorem ChanAt.jO(h:ChanAt w o)(E:jJ M w w')(I:¬M o.blk)(h2:∀b,o.fm=some b->¬M b):ChanAt w' o:=by
 refine⟨(E.block _ (jC h.obj) I).trans h.obj,h.fine,h.small,h.lastLt,λhs=>?_,h.spoilt⟩;obtain⟨⟨B,e,z⟩,a,b,c,d⟩:=h.sound hs;exact⟨⟨B,e,z.of_block (E.block _ z.lt (h2 B e))⟩,a,b,c,d⟩
theorem Chs.jO(h:Chs w nb vo nm os)(I:jJ M w w')(z:∀k,Own nb vo os k->¬M k):Chs w' nb vo nm os:=
 ⟨h.named.of_block (I.block _ h.named.lt (z _ (.inl rfl))),h.order.jO I (λg R=>z g (.inr (.inl R))),λo E=>(h.chans o E).jO I (z _ (.inr (.inr ⟨o,E,.inl rfl⟩))) (λb J=>z b (.inr (.inr ⟨o,E,.inr J⟩))),h.apart,h.maps,h.far,h.entries⟩
theorem Chs.below(h:Chs w nb vo nm os)(z:Below w.heap.size w w'):Chs w' nb vo nm os:=h.jO (.below z jA (λ_=>False)) (λ_ _ e=>e)
theorem Chs.qI(h:Chs w nb vo nm os)(hk:Own nb vo os k):k<w.heap.size:=by
 rcases hk with rfl|hk|⟨o,z,rfl|hk⟩
 ·exact h.named.lt
 ·exact h.order.lt hk
 ·exact(dR.1 (h.chans o z).obj).1
 ·cases hs:o.ch.spoilt
  ·obtain⟨⟨B,e,E⟩,_⟩:=(h.chans o z).sound hs;rw[e]at hk;cases hk;exact E.lt
  ·rw[((h.chans o z).spoilt hs).2]at hk;cases hk
theorem Chs.kU(h:Chs w nb vo nm os){cs:Array Value}{t:Nat}{I:Nat×Nat}(hk:w.heap[k]? =some (.cells cs t I))(Y:t≠197)(h2:t≠201):¬Own nb vo os k:=by
 rintro(rfl|e|⟨o,E,rfl|e⟩)
 ·exact kN hk h.named rfl
 ·obtain⟨J,z⟩:=h.order.obj e;rw[hk]at z;simp at z;exact Y z.2.1
 ·have z:=(h.chans o E).obj;unfold vH at z;rw[hk]at z;simp at z;exact h2 z.2.1
 ·cases hs:o.ch.spoilt
  ·obtain⟨⟨B,e',R⟩,_⟩:=(h.chans o E).sound hs;rw[e']at e;cases e;exact kN hk R rfl
  ·rw[((h.chans o E).spoilt hs).2]at e;cases e
theorem Chs.get(h:Chs w nb vo nm os):lM nm n=none\/∃o,o∈os/\o.ch.name=n/\lM nm n=some (ptr o.blk):=by
 cases E:lM nm n with
 |none=>exact .inl rfl
 |some v=>
  obtain⟨o,z,e⟩:=h.entries _ (JG E);simp only[dA]at e;exact .inr ⟨o,z,e.1.symm,by rw[e.2]⟩
theorem pF(h:lM nm o.ch.name=some (ptr b)):alive nm o=(b == o.blk):=by
 unfold alive;rw[h];rfl
theorem rU(h:lM nm o.ch.name=none):alive nm o=false:=by
 unfold alive;rw[h]
theorem abb(w:World):(sizeOf 201).run PQ w=.ok 7 w:=by kernel_rfl
theorem ab2{a:Nat}{J z:Array Value}{ta tb:TypeId}(E:w.heap[a]? =some (.cells J ta (0,0)))(R:w.heap[b]? =some (.cells z tb (0,0))):(binOp .eql 197 (.pointer (some ⟨a,0,none⟩)) (.pointer (some ⟨b,0,none⟩))).run PQ w=.ok (.bool (a == b)) w:=by
 have I:(sameAddr ⟨a,0,none⟩ ⟨b,0,none⟩).run PQ w=.ok (a == b) w:=by
  by_cases e:a=b
  ·subst e;rw[run_sameAddr_same];simp
  ·rw[run_sameAddr_other w (a:=⟨a,0,none⟩) (b:=⟨b,0,none⟩) (λh=>e (congrArg Addr.block h)) E R,show(a == b)=false from beq_false_of_ne e]
 have h2:(Op.equal 197 (.pointer (some ⟨a,0,none⟩)) (.pointer (some ⟨b,0,none⟩))).run PQ w=.ok (a == b) w:=by
  unfold Op.equal Op.maxDepth
  show(Op.equalIn (9999+1) _ _ _).run _ _=_
  unfold Op.equalIn;simp only[iR,run_underlying (uq Tryz.underlying197),Result.andThen,abb];simp[I]
 simp only[binOp];simp[h2]
theorem TF:(binOp .eql 197 (.pointer none) (.pointer (some ⟨b,0,none⟩))).run PQ w=.ok (.bool false) w:=by
 have h2:(Op.equal 197 (.pointer none) (.pointer (some ⟨b,0,none⟩))).run PQ w=.ok false w:=by
  unfold Op.equal Op.maxDepth
  show(Op.equalIn (9999+1) _ _ _).run _ _=_
  unfold Op.equalIn;simp only[iR,run_underlying (uq Tryz.underlying197),Result.andThen];rfl
 simp only[binOp];simp[h2]
structure Core(w:World)(nb:Nat)(nm:AL)(os:List PC):Prop where
 named:lu w nb .u32 nm
 objs:∀o,o∈os->w.heap[o.blk]? =some (vH o)
 entries:∀p,p∈nm->∃o,o∈os/\p=(o.ch.name,ptr o.blk)
theorem Chs.core(h:Chs w nb vo nm os):Core w nb nm os:=⟨h.named,λo z=>(h.chans o z).obj,h.entries⟩
theorem Core.get(h:Core w nb nm os):lM nm n=none\/∃o,o∈os/\o.ch.name=n/\lM nm n=some (ptr o.blk):=by
 cases E:lM nm n with
 |none=>exact .inl rfl
 |some v=>
  obtain⟨o,z,e⟩:=h.entries _ (JG E);simp only[dA]at e;exact .inr ⟨o,z,e.1.symm,by rw[e.2]⟩
theorem Core.jO(h:Core w nb nm os)(E:jJ M w w')(I:¬M nb)(h2:∀o,o∈os->¬M o.blk):Core w' nb nm os:=
 ⟨h.named.of_block (E.block _ h.named.lt I),λo z=>(E.block _ (dR.1 (h.objs o z)).1 (h2 o z)).trans (h.objs o z),h.entries⟩
theorem Core.drewN(h:Core w nb nm os)(m:Nat):Core (w.drewN m) nb nm os:=⟨h.named.of_block rfl,h.objs,h.entries⟩
theorem qZ(s nb:Nat)(i:Nat)(nm:AL)(os:List PC)(o:PC)(w:World)(h:Core w nb nm os)(Y:o∈os)(hs:w.cell? ⟨s,i,none⟩=some (.map (some nb))):
  Calls PQ 104 #[.pointer (some ⟨s,i,none⟩),ptr o.blk] w λe w'=>e=.returned (.bool (alive nm o))/\∃m,w'=w.drewN m:=by
 have E:=h.objs o Y;have c0:=nO E;have z:=(h.named.of_block (w':=w.drew) rfl).lookup (P:=PQ) (uq Tryz.underlying130) (uq Tryz.underlying22) (TT _) o.ch.name false;simp only[bJ,if_false]at z;obtain⟨r,J⟩:∃r,alive nm o=r:=⟨_,rfl⟩
 rw[J];unfold ptr;rcases h.get (n:=o.ch.name)with I|⟨o',aa,hn,I⟩
 ·rw[I]at z;simp only[Option.getD_none]at z;rw[rU I]at J;subst J;have R:=TF (w:=w.drew) (b:=o.blk);clear h Y E I;go_enter (fq Tryz.func104 rfl),Tryz.ntmps104;go_wp2_with fail;go_region
  all_goals
   go_wp2_with fail;go_ret;exact⟨rfl,1,rfl⟩
 ·rw[I]at z;simp only[fB]at z;unfold ptr at z;rw[pF I]at J;have R:=ab2 (w:=w.drew) (h.objs o' aa) E;rw[J]at R;clear h Y E I J;go_enter (fq Tryz.func104 rfl),Tryz.ntmps104;go_wp2_with fail;go_region
  all_goals
   go_wp2_with fail;go_ret;exact⟨rfl,1,rfl⟩
end
open Dv (Cf U Tx)
open Fr (below_drewN)
section
variable {w:World}
abbrev PU:=U×Value×Value
variable {ps:List PU}
def uX(p:PU):List Value:=[.int .i64 p.1.id,.int .i64 p.1.time,p.2.1,p.2.2]
def lI(w:World)(v:Value)(ps:List PU):Prop:=Rd w 4 v ps.length (ps.flatMap uX)/\∀p,p∈ps->oC w p.1 p.2.1 p.2.2
theorem lI.below{w':World}{v:Value}(h:lI w v ps)(z:Below w.heap.size w w'):lI w' v ps:=⟨Rd.below h.1 z,λp hp=>(h.2 p hp).below z⟩
theorem lI.get{g off cap:Nat}(h:lI w (.slice (some ⟨g,off,none⟩) ps.length cap) ps){j:Nat}{p:PU}(z:ps[j]? =some p):
  w.cell? ⟨g,off+j*4,none⟩=some (.int .i64 p.1.id)/\w.cell? ⟨g,off+j*4+1,none⟩=some (.int .i64 p.1.time)/\w.cell? ⟨g,off+j*4+2,none⟩=some p.2.1/\w.cell? ⟨g,off+j*4+3,none⟩=some p.2.2:=by
 have k:=λ(i:Nat)(u:Value)(I:i<4)(E:(uX p)[i]? =some u)=>Rd.rec uX 4 (λ_=>rfl) h.1 z I E;exact⟨k 0 _ (by omega) rfl,k 1 _ (by omega) rfl,k 2 _ (by omega) rfl,k 3 _ (by omega) rfl⟩
theorem Ij(us:List U)(i:Nat)(u:U)(E:us[i]? =some u)(b:Option Int):Dv.jV b (us.drop i)=(Dv.mM b u&&Dv.jV (some u.time) (us.drop (i+1))):=by
 obtain⟨z,rfl⟩:=aF.1 E;rw[List.drop_eq_getElem_cons z,Dv.jV]
theorem OI(us:List U)(i:Nat)(h:us.length<=i)(b:Option Int):Dv.jV b (us.drop i)=true:=by
 rw[List.drop_eq_nil_of_le h,Dv.jV]
theorem Fq(v:Value)(ps:List PU)(w:World)(h:lI w v ps)(hl:ps.length<=4294967296):Calls PQ 37 #[v] w λe w'=>e=.returned (.bool (Dv.jR (ps.map Prod.fst)))/\Below w.heap.size w w':=by
 obtain⟨r,hr⟩:∃r,Dv.jR (ps.map Prod.fst)=r:=⟨_,rfl⟩
 rw[hr]
 have hd:Dv.jR (ps.map Prod.fst)=((decide ((1:Int)<=ps.length)&&decide ((ps.length:Int)<=60))&&Dv.jV none (ps.map Prod.fst)):=by
  unfold Dv.jR;rw[aU,Bool.decide_and]
  congr 2
  ·exact decide_eq_decide.2 (by omega)
  ·exact decide_eq_decide.2 (by omega)
 rw[hr]at hd;have c1:=λW=>lY ps.length 1 60 W;obtain⟨b1,ab⟩:∃b,(decide ((1:Int)<=ps.length)&&decide ((ps.length:Int)<=60))=b:=⟨_,rfl⟩
 rw[ab]at c1 hd;have C1:Hid _:=c1;clear c1 hr;cases b1
 ·obtain⟨a,cap,rfl⟩:=Rd.slice h.1;have Hd:Hid _:=hd;clear hd ab h;go_enter (fq Tryz.func37 rfl),Tryz.ntmps37;go_wp2_with (go_at_call 66;refine aK (C1.out _) ?_;rintro e w2 ⟨rfl,J⟩;obtain rfl:=J.symm)
  go_ret;exact⟨by rw[Hd.out];rfl,aB _ _⟩
 ·have h1:1<=ps.length/\ps.length<=60:=by
   simp only[bY,decide_eq_true_eq]at ab;omega
  obtain⟨g,off,cap,rfl,a1,hg,_⟩:=Rd.pos h.1 (by omega);obtain⟨p0,I⟩:∃p,ps[0]? =some p:=⟨_,aG (by omega)⟩
  obtain⟨k0,k1,k2,k3⟩:=h.get I;simp only[Nat.zero_mul,Nat.add_zero]at k0 k1 k2 k3;have ag:(ps.map Prod.fst)[0]? =some p0.1:=by rw[eX,I];rfl
  have c2:=λW (hb:Below w.heap.size w W)=>first_any p0.1 p0.2.1 p0.2.2 W ((h.2 p0 (aQ I)).below hb);have ac:=Ij (ps.map Prod.fst) 0 p0.1 ag none;rw[List.drop_zero,Ny]at ac;rw[ac]at hd;obtain⟨b2,E⟩:∃b,uP p0.1=b:=⟨_,rfl⟩
  rw[E]at c2 hd;unfold Le at c2;obtain⟨ta,tc,Y⟩:=Rd.slice (h.2 p0 (aQ I)).1;obtain⟨la,lc,aa⟩:=Rd.slice (h.2 p0 (aQ I)).2.1;rw[Y]at c2 k2;rw[aa]at c2 k3;have C2:Hid _:=c2;have ay:(1:Int)<=ps.length:=by omega
  have a0:(ps.length:Int)<=cap:=by omega
  have aw:(0:Int)<ps.length:=by omega
  cases b2
  ·have Hd:Hid _:=hd;clear hd ab h c2 ac ag Y aa I;go_enter (fq Tryz.func37 rfl),Tryz.ntmps37;go_wp2_with (first|(go_at_call 66;refine aK (C1.out _) ?_;rintro e w2 ⟨rfl,J⟩;obtain rfl:=J.symm)|(go_at_call 67;refine aK (C2.out _ ?_) ?_;exact aB _ _;rintro e w2 ⟨rfl,E⟩)|fail)
   go_ret;exact⟨by rw[Hd.out];rfl,E⟩
  ·have am:0<=p0.1.time/\p0.1.time<=1000000:=by
    unfold uP at E;simp only[bY,decide_eq_true_eq]at E;exact E.1
   by_cases ap:cap=1
   ·have ar:ps.length=1:=by omega
    have hr:r=true:=by
     rw[hd,OI _ _ (by rw[aU];omega)];rfl
    subst ap;have Hr:Hid _:=hr;rw[ar]at C1⊢;clear hd ab h c2 ac ag Y aa I am hr;go_enter (fq Tryz.func37 rfl),Tryz.ntmps37;go_wp2_with (first|(go_at_call 66;refine aK (C1.out _) ?_;rintro e w2 ⟨rfl,J⟩;obtain rfl:=J.symm)|(go_at_call 67;refine aK (C2.out _ ?_) ?_;exact aB _ _;rintro e w2 ⟨rfl,E⟩)|fail)
    have aj:Hid _:=E;clear E;go_loopg [3,4,19] 0 (λgg _ _ ai wx=>ai=.int .i64 0/\wx=w2)
    case atStart=>exact⟨rfl,rfl⟩
    case round=>
     obtain⟨rfl,rfl⟩:=hrel;go_wp2_with fail;go_ret;exact⟨by rw[Hr.out];rfl,aj.out⟩
   ·have Hd:Hid _:=hd;have H:Hid _:=jw h (jw I am);clear hd ab h c2 ac ag Y aa I am;go_enter (fq Tryz.func37 rfl),Tryz.ntmps37;go_wp2_with (first|(go_at_call 66;refine aK (C1.out _) ?_;rintro e w2 ⟨rfl,J⟩;obtain rfl:=J.symm)|(go_at_call 67;refine aK (C2.out _ ?_) ?_;exact aB _ _;rintro e w2 ⟨rfl,E⟩)|fail)
    have aj:Hid _:=E;clear E k0 k1 k2 k3;go_loopg [3,4,19] ps.length (λgg _ _ ai wx=>∃(i:Nat)(p:PU),i+1<=ps.length/\ai=.int .i64 i/\gg=ps.length-i/\Hid (ps[i]? =some p/\(0<=p.1.time/\p.1.time<=1000000+24*i)/\r=Dv.jV (some p.1.time) ((ps.map Prod.fst).drop (i+1))/\Below w.heap.size w wx))
    case atStart=>exact⟨0,p0,by omega,rfl,rfl,H.out.2.1,by have:=H.out.2.2;omega,by rw[Hd.out];simp,aj.out⟩
    case round=>
     obtain⟨i,p,hi,rfl,rfl,HI⟩:=hrel;obtain⟨hp,ah,ae,R⟩:=HI.out;by_cases au:i+1<ps.length
     ·obtain⟨q,hq⟩:∃q,ps[i+1]? =some q:=⟨_,aG au⟩
      have hU:=H.out.1.below R;obtain⟨k0,k1,k2,k3⟩:=hU.get hq;obtain⟨_,kt,_,_⟩:=hU.get hp;rw[show off+(i+1)*4=off+4+i*4 from by omega]at k0 k1 k2 k3;obtain⟨ta,tc,Y⟩:=Rd.slice (hU.2 q (aQ hq)).1;obtain⟨la,lc,aa⟩:=Rd.slice (hU.2 q (aQ hq)).2.1;have c3:=λW (hb:Below wr.heap.size wr W)=>next_any p.1.time q.1 q.2.1 q.2.2 W ((hU.2 q (aQ hq)).below hb) (by omega);have af:=Ij (ps.map Prod.fst) (i+1) q.1 (by rw[eX,hq];rfl) (some p.1.time);rw[QN]at af;obtain⟨b3,ak⟩:∃b,yu p.1.time q.1=b:=⟨_,rfl⟩
      rw[ak]at c3 af;unfold Le at c3;rw[Y]at c3 k2;rw[aa]at c3 k3;obtain⟨W,hW,z,-⟩:=jE wr #[.int .i64 q.1.id,.int .i64 q.1.time,.slice ta q.1.txs.length tc,.slice la q.1.logs.length lc] 42;have a2:W.cell? ⟨g,off+i*4+1,none⟩=some (.int .i64 p.1.time):=(z.cell (p:=⟨g,off+i*4+1,none⟩) (by have:=R.size;show g<_;omega)).trans kt;have z0:W.cell? ⟨wr.heap.size,0,none⟩=some (.int .i64 q.1.id):=by rw[hW];simp
      have z1:W.cell? ⟨wr.heap.size,1,none⟩=some (.int .i64 q.1.time):=by rw[hW];simp
      have z2:W.cell? ⟨wr.heap.size,2,none⟩=some (.slice ta q.1.txs.length tc):=by rw[hW];simp
      have z3:W.cell? ⟨wr.heap.size,3,none⟩=some (.slice la q.1.logs.length lc):=by rw[hW];simp
      have C3:Hid _:=c3;have ao:Hid _:=jw af (jw ae (jw hq (jw R (jw ak (jw ah z)))));have av:(i:Int)<ps.length-1:=by omega
      have ax:(i:Int)<ps.length:=by omega
      clear c3 af ae hq Y aa hU hp R ak ah;have aq:i<ps.length-1:=by omega
      go_upto_region 6 with fail;rw[<-hW];clear hW;have az:=aB W.heap.size W;cases b3
      ·go_region_with (go_at_call 68;(refine aK (C3.out _ ?_) ?_;(first|exact z|exact z.drew|exact below_drewN z _);rintro e w5 ⟨rfl,an⟩))
       all_goals
        go_wp2_with fail;go_ret;obtain⟨q1,q2,q3,q4,q5,q6,q7⟩:=ao.out;refine⟨by rw[q2,q1];rfl,q4.trans ((Below.trans ?_ (an.mono ?_)).mono q4.size)⟩
        ·first|exact z|exact z.drew|exact below_drewN z _
        ·first|exact z.size|exact z.drew.size|exact(below_drewN z _).size
      ·go_region_with (go_at_call 68;(refine aK (C3.out _ ?_) ?_;(first|exact z|exact z.drew|exact below_drewN z _);rintro e w5 ⟨rfl,an⟩))
       all_goals
        go_wp2_with fail;go_roundg (ps.length-(i+1))
        case measure=>omega
        case rel=>
         obtain⟨q1,q2,q3,q4,q5,q6,q7⟩:=ao.out;refine⟨i+1,q,by omega,by go_num,rfl,q3,?_,by rw[q2,q1];rfl,q4.trans ((Below.trans ?_ (an.mono ?_)).mono q4.size)⟩
         ·unfold yu at q5;simp only[bY,decide_eq_true_eq]at q5;omega
         ·first|exact z|exact z.drew|exact below_drewN z _
         ·first|exact z.size|exact z.drew.size|exact(below_drewN z _).size
     ·have aq:¬i<ps.length-1:=by omega
      clear hp ah ae R;go_wp2_with fail;go_ret;obtain⟨hp,ah,ae,R⟩:=HI.out;refine⟨?_,R⟩;rw[ae,OI _ _ (by rw[aU];omega)];rfl
end
open Dv (U Cf Ba Ch)
section
variable {v vo:Value}{s n nb:Nat}{xs:List Value}
structure jZ(M:Nat->Prop)(w w':World):Prop where
 size:w.heap.size<=w'.heap.size
 block:∀k,k<w.heap.size->¬M k->w'.heap[k]? =w.heap[k]?
section
variable {M M':Nat->Prop}{w w' w'':World}
theorem jJ.h(h:jJ M w w'):jZ M w w':=⟨h.size,h.block⟩
theorem jZ.trans(h:jZ M w w')(z:jZ M' w' w'')(I:∀k,k<w.heap.size->M' k->M k):jZ M w w'':=
 ⟨aW h.size z.size,λk hk E=>(z.block k (aH hk h.size) (λe=>E (I k hk e))).trans (h.block k hk E)⟩
theorem jZ.mono(h:jZ M w w')(z:∀k,k<w.heap.size->M k->M' k):jZ M' w w':=⟨h.size,λk hk E=>h.block k hk (λe=>E (z k hk e))⟩
theorem jZ.heaps{v v':World}(h:jZ M w w')(e:v.heap=w.heap)(z:v'.heap=w'.heap):jZ M v v':=⟨by rw[e,z];exact h.size,λk hk=>by rw[e,z];rw[e]at hk;exact h.block k hk⟩
theorem jZ.fake(h:jZ M w w'):∃v,jJ M w v/\v.heap=w'.heap:=⟨{ w' with os:=w.os,tape:=w.tape,output:=w.output },⟨rfl,rfl,rfl,h.size,h.block⟩,rfl⟩
theorem Row.heap{e:Nat}(h:Row w e s v n xs)(q:w'.heap=w.heap):Row w' e s v n xs:=h.kept (λg _=>by rw[q])
theorem Rd.heap(h:Rd w s v n xs)(q:w'.heap=w.heap):Rd w' s v n xs:=h.kept (by rw[q];exact jA) (λ_ g _ _=>by rw[q])
theorem qJ.heap{kb:Nat}{c:Cf}{vu:Value}{us:List PB}{z:Nat->List (List UInt8)}{vw:Value}{ws:List PW}{cnt ep sq:Nat}(h:qJ w kb c vu us z nb vo vw ws cnt ep sq)(q:w'.heap=w.heap):qJ w' kb c vu us z nb vo vw ws cnt ep sq:=
 ⟨by rw[q];exact h.obj,h.upper.heap q,h.wait.heap q,λj p hp=>Row.heap (h.deps j p hp) q,λp hp=>Row.heap (h.txs p hp) q⟩
theorem ChanAt.heap{o:PC}(h:ChanAt w o)(q:w'.heap=w.heap):ChanAt w' o:=⟨by rw[q];exact h.obj,h.fine,h.small,h.lastLt,λe=>by
 have s:=h.sound e;obtain⟨B,E,z⟩:=s.map;exact⟨⟨B,E,z.of_block (by rw[q])⟩,s.size,s.room,s.ended,s.last⟩,h.spoilt⟩
theorem Chs.heap{nm:AL}{os:List PC}(h:Chs w nb vo nm os)(q:w'.heap=w.heap):Chs w' nb vo nm os:=⟨h.named.of_block (by rw[q]),h.order.heap q,λo z=>(h.chans o z).heap q,h.apart,h.maps,h.far,h.entries⟩
theorem oC.heap{u:U}{z E:Value}(h:oC w u z E)(q:w'.heap=w.heap):oC w' u z E:=⟨Rd.heap h.1 q,Rd.heap h.2.1 q,h.2.2⟩
theorem pI(q:w'.heap=w.heap)(a:Addr):w'.cell? a=w.cell? a:=by unfold World.cell?;rw[q]
theorem kQ.heap(h:kQ w)(q:w'.heap=w.heap):kQ w':=⟨⟨by rw[pI q];exact h.1.1,by rw[pI q];exact h.1.2.1,by rw[pI q];exact h.1.2.2⟩,⟨by rw[pI q];exact h.2.1,by rw[pI q];exact h.2.2.1,by rw[pI q];exact h.2.2.2⟩⟩
end
end
open Go.RowKit Go.Joins Go.Shelf
open Dv (U Cf Ba)
theorem Sz(w:World):(binOp .eql 40 (.slice none 0 0) (.slice none 0 0)).run PQ w=.ok (.bool true) w:=by kernel_rfl
theorem Pn(w:World)(a:Addr)(n c:Nat):(binOp .eql 40 (.slice (some a) n c) (.slice none 0 0)).run PQ w=.ok (.bool false) w:=by kernel_rfl
theorem LW(v:Value)(l:List (List UInt8))(w:World)(h:kM w v l)(hl:l.length<=4294967296):Calls PQ 130 #[v] w λe w'=>∃a cap,e=.returned (.slice a l.length cap)/\Made w' w.heap.size (.slice a l.length cap) l/\Below w.heap.size w w':=by
 rcases h.2 with⟨rfl,ao⟩|⟨g,off,cap,av,rfl,an,aw,au,_,_⟩
 ·obtain rfl:=bD ao;have am:=Sz;go_enter (fq Tryz.func130 rfl),Tryz.ntmps130;go_wp2_with fail;go_ret;exact⟨none,0,rfl,⟨Row.nil _ _ _,by simp[Value.ownBlock]⟩,aB _ _⟩
 ·obtain⟨i0,ak,af,ah,ai⟩:=info_parts Bd;have Hi:Hid _:=jw ak (jw af (jw ah ai));obtain⟨W,hW,R,ho⟩:=jE w #[] 9;have Y:Row W 9 1 (.slice (some ⟨w.heap.size,0,none⟩) 0 0) 0 []:=⟨by simp,.inr ⟨w.heap.size,0,0,#[],rfl,ho,jA,by unfold maxLen;omega,by simp,λj u hj=>by simp at hj⟩⟩
  have J:∀j u,(l.map nZ)[j]? =some u->W.cell? ((⟨g,off,none⟩:Addr).add j)=some u:=λj u hj=>by
   have:=(Row.below h R).cell rfl j u hj;unfold Addr.add;split
   ·rename_i h0;subst h0;exact this
   ·exact this
  have ab:∀u,u∈l.map nZ->u.oneCell'=true:=λu hu=>by
   obtain⟨x,_,rfl⟩:=bC.1 hu;rfl
  have ac:(l.map nZ).length=l.length*1:=by simp
  obtain⟨aa,E⟩:∃aa,aa=l.map nZ:=⟨_,rfl⟩
  rw[<-E]at J ab ac;have H:Hid _:=jw R (jw ho (jw Y (jw J (jw ab (jw ac E)))));have am:=Pn;clear R ho Y J ab ac E h ak af ah ai an;by_cases hn:l.length=0
  ·obtain⟨rfl⟩:l=[]:=bD hn;have ae:aa=[]:=H.out.2.2.2.2.2.2;have ar:Hid _:=ae;clear ae hn;go_enter (fq Tryz.func130 rfl),Tryz.ntmps130;go_upto_region 3 with fail;go_wp2_with (first|(at_builtin;rw[<-hW];refine lK _ rfl (.tmp 5) (.tmp 6) 40 rfl 9 i0 1 (uq Tryz.underlying40) Hi.out.1 Hi.out.2.2.1 w.heap.size 0 0 0 rfl ⟨g,off,none⟩ 0 cap [] rfl rfl (by intro j u hj;simp at hj) (by intro u hu;simp at hu) (by omega) (by intro j hj;simp at hj) (by intro j;exact aI H.out.2.1 j) ?_)|go_in)
   go_ret;subst hW;exact⟨some ⟨w.heap.size,0,none⟩,0,rfl,⟨H.out.2.2.1,λq hq=>by have:some w.heap.size=some q:=hq;cases this;exact jA⟩,H.out.1⟩
  ·go_enter (fq Tryz.func130 rfl),Tryz.ntmps130;go_upto_region 3 with fail;go_wp2_with (first|(at_builtin;rw[<-hW];refine lG _ rfl (.tmp 5) (.tmp 6) 40 rfl 9 i0 _ 1 16 (uq Tryz.underlying40) Hi.out.1 Hi.out.2.1 Hi.out.2.2.1 Hi.out.2.2.2 rfl (by decide) _ 0 [] rfl H.out.2.2.1 ⟨g,off,none⟩ l.length cap aa rfl (by omega) H.out.2.2.2.2.2.1 H.out.2.2.2.1 H.out.2.2.2.2.1 (by unfold maxLen;omega) (by omega) ?_;intro g5 ag aj w5 I z;have ap:Hid _:=jw I z;clear I z)|go_in)
   go_ret;obtain⟨I,z⟩:=ap.out;obtain⟨R,ho,Y,J,ab,ac,E⟩:=H.out;rw[fC,dM,E]at I
   have aq:w.heap.size<=g5:=by
    rcases z.own with e|e
    ·have:some w.heap.size=some g5:=e;cases this;exact jA
    ·exact aW R.size e
   refine⟨some ⟨g5,ag,none⟩,aj,rfl,⟨I,λq hq=>by have:some g5=some q:=hq;cases this;exact aq⟩,?_⟩;refine R.trans ⟨z.jO.os,z.jO.tape,z.jO.output,z.jO.size,λq hq=>z.jO.block q (aH hq R.size) (λe=>?_)⟩;have:some w.heap.size=some q:=e;cases this;omega
def alone(c:Cf)(us:List PB)(cnt ep:Nat):Nat:=if zN us (ep+1)<=lF c us cnt then ep+1 else ep
theorem yt(kb:Nat)(c:Cf)(us:List PB)(cnt ep:Nat)(w:World)(h:Look w kb c us cnt ep)(aa:ep+1<us.length):Calls PQ 125 #[.pointer (some ⟨kb,0,none⟩)] w λx w'=>x=.returned (.int .i64 (alone c us cnt ep:Nat))/\∃m,w'=w.drewN m:=by
 obtain⟨vu,nb,vo,vw,sq,R,Y⟩:=h.obj;obtain⟨g,off,cap,rfl,ae,hg,hx⟩:=Y.pos (by omega);obtain⟨p,hp⟩:∃p,us[ep+1]? =some p:=⟨_,aG aa⟩
 have k1:w.cell? ⟨g,off+(ep+1)*3+1,none⟩=some (.int .i64 p.2.1):=by
  have:=Rd.rec qc 3 (λ_=>rfl) Y hp (i:=1) (u:=.int .i64 p.2.1) (by omega) rfl;rw[<-dO]at this;exact this
 have c7:w.cell? ⟨kb,7,none⟩=some (.slice (some ⟨g,off,none⟩) us.length cap):=nM R rfl;have ac:w.cell? ⟨kb,12,none⟩=some (.int .i64 ep):=nM R rfl;have z:=λm=>Dj kb c us cnt ep (w.drewN m) (h.drewN m) (by omega);have ab:(ep:Int)+1<(us.length:Int):=by omega
 obtain⟨t,ht⟩:∃t,lF c us cnt=t:=⟨_,rfl⟩
 obtain⟨r,E⟩:∃r,alone c us cnt ep=r:=⟨_,rfl⟩
 rw[E];unfold alone at E;rw[uH hp,ht]at E;rw[ht]at z;obtain⟨tp,J⟩:∃x,p.2.1=x:=⟨_,rfl⟩
 rw[J]at k1 E;have I:Hid _:=z;have Hr:Hid _:=E;have hl:=h.len;clear h R Y hx hp z E ht J;go_enter (fq Tryz.func125 rfl),Tryz.ntmps125;go_upto_region 1 with fail;go_quiet ((go_at_call 178;exact Calls.quiet_of (I.out _)));by_cases h1:tp<=t
 ·go_wp2_with fail;go_ret;refine⟨?_,_,rfl⟩;rw[<-Hr.out,if_pos h1];rfl
 ·go_wp2_with fail;go_ret;refine⟨?_,_,rfl⟩;rw[<-Hr.out,if_neg (by omega)];rfl
end Hm
end Go.Proofs.YtpibpdpedjinhaaGreatDoor
