import Derived.Test.YtpibpdpedjinhabGreatDoorP22
import Derived.LaidEql
import Derived.Laws.Pointers
set_option maxRecDepth 100000
set_option maxHeartbeats 4000000
set_option linter.all false
open Bool renaming false->aR,true->bB
open Go renaming Calls->eL,Value->aD,World->X,run_underlying->eB
open Go.Ending renaming returned->bX
open Go.IntKind renaming i64->aE,u16->mb,u32->dT
open Go.Obj renaming cells->aL
open Go.Proofs.Tryz renaming ntmps47->n9,underlying107->pm,underlying138->ki,underlying26->nq
open Go.RowKit renaming Below->cG,Hid->cJ
open Go.Value renaming bool->cM,int->N,pointer->aG,slice->aM,string->bE
open Option renaming none->Z,some->M
open Or renaming inl->bN,inr->cF
open Prod renaming fst->cI
namespace Go.Proofs.YtpibpdpedjinhabGreatDoor
namespace Hm
open Go.RowKit Go.Joins
open Dv (Ch Fine)
open Fr (F below_drewN)
section
variable {l:List F}{x:F}{k blk B t r cnt nm op n:Nat}{w w0 w1 w2:X}{cs:Array aD}{fz:Nat×Nat}{q:IntKind}{m:AL}{L:Nat->Bool}{sp:Bool}
def upto(n:Nat)(L:Nat->Bool)(x:F):Bool:=decide (x.num<=n) || L x.num
def size_cons(x:F)(l:List F):Dv.size (x::l)=x.data.length+Dv.size l:=by simp[Dv.size]
def size_drop(Y:(l.map (·.num)).Nodup)(R:x∈l):Dv.size (l.filter (λy=>y.num != x.num))+x.data.length=Dv.size l:=by
 induction l with
 |nil=>simp at R
 |cons y l ih=>
  have E:=iE.1 (by simpa using Y:(y.num::l.map (·.num)).Nodup);obtain rfl|I:=dD.1 R
  .have:l.filter (λy=>y.num != x.num)=l:=iR.2 (λz hz=>by
    simp only[bne_iff_ne,ne_eq];exact λe=>E.1 (bM.2 ⟨z,hz,e⟩))
   rw[eG,Zs aC,this,size_cons];omega
  .have J:y.num≠x.num:=λe=>E.1 (e ▸ bM.2 ⟨x,I,rfl⟩);rw[eG,ZD (by simp[J]),size_cons,size_cons];have:=ih E.2 I;omega
def ZN(l:List F)(k:Nat):nX (uj l) k=uj (l.filter (λy=>y.num != k)):=by unfold nX uj;rw[List.filter_map];rfl
def Gv(l:List F)(n k:Nat)(L:Nat->Bool)(hk:n<k):(l.filter (upto n L)).filter (λy=>y.num != k)=l.filter (upto n (λx=>L x&&x != k)):=by
 rw[List.filter_filter]
 congr 1
 funext y;unfold upto;by_cases e:y.num=k
 .simp[e];omega
 .have:(y.num != k)=bB:=by simp[e]
  show((y.num != k)&&_)=(_ || (L y.num&&(y.num != k)))
  rw[this];simp
def GV(l:List F)(n k:Nat)(L:Nat->Bool)(hk:k<=n):l.filter (upto n L)=l.filter (upto n (λx=>L x&&x != k)):=by
 congr 1
 funext y;unfold upto;by_cases e:y.num=k
 .have:y.num<=n:=by omega
  simp[this]
 .have:(y.num != k)=bB:=by simp[e]
  show _=(_ || (L y.num&&(y.num != k)))
  rw[this];simp
def aaL{v:aD}(h:(k,v)∈uj l):∃x,x∈l/\x.num=k/\v=Jw x:=by unfold uj at h;obtain⟨x,z,e⟩:=bM.1 h;simp only[dJ]at e;exact⟨x,z,e.1,e.2.symm⟩
def mO(nm:Nat)(op:Nat)(fm:Option Nat)(sz:Int)(en:Bool)(la:Nat)(sp:Bool):Array aD:=#[N dT nm,N aE op,.map fm,N aE sz,.bool en,N mb la,.bool sp]
structure oQ(w0:X)(blk B nm op n:Nat)(sp:Bool)(l:List F)(r:Nat)(L:Nat->Bool)(cnt:Nat)(w:X):Prop where
 rg:lD w B r mb (uj (l.filter (upto n L))) L cnt
 obj:w.heap[blk]? =M (aL (mO nm op (M B) (Dv.size (l.filter (upto n L))) bB n sp) 140 (0,0))
 jM:jI (λk=>k=blk\/k=B) w0 w
 new:w0.heap.size<=r
def lg(h:w.heap[blk]? =M (aL cs t fz))(z:lS w B q m):blk≠B:=by obtain⟨es,c,E,_⟩:=z;intro e;rw[e,E]at h;cases h
def xI(h:w.heap[blk]? =M (aL cs t fz))(I:lD w B r q m L cnt):blk≠r:=by obtain⟨es,E,z,seen,c0,R,h2,h3,h4,Y,J,_⟩:=I;intro e;rw[e,J]at h;cases h
def oQ.came(h:oQ w0 blk B nm op n sp l r L cnt w)(E:w.grownBy w1 (M r)):w1.heap[blk]? =M (aL (mO nm op (M B) (Dv.size (l.filter (upto n L))) bB n sp) 140 (0,0))/\jI (λk=>k=blk\/k=B) w0 w1:=by
 have z:=xI h.obj h.rg;refine⟨(E.block blk (jE h.obj) (by simp[z])).trans h.obj,h.jM.trans (.grown E) (λj I e=>?_)⟩;simp at e;subst e;have:=h.new;omega
def oQ.stay(E:lD w1 B r mb (uj (l.filter (upto n L))) (λx=>L x&&x != k) cnt)(I:w1.heap[blk]? =M (aL (mO nm op (M B) (Dv.size (l.filter (upto n L))) bB n sp) 140 (0,0)))(hc:jI (λk=>k=blk\/k=B) w0 w1)(J:w0.heap.size<=r)(hk:k<=n)(z:cG w1.heap.size w1 w2):oQ w0 blk B nm op n sp l r (λx=>L x&&x != k) cnt w2:=by
 refine⟨?_,?_,hc.trans (.below z jB (λ_=>False)) (λ_ _ e=>e.elim),J⟩
 .rw[<-GV l n k L hk];exact E.FP (z.block _ E.ZE.lt) (z.block _ E.lt)
 .rw[<-GV l n k L hk];exact(z.block _ (jE I)).trans I
def oQ.less(z:lD w1 B r mb m (λx=>L x&&x != k) cnt){s:Int}(E:w1.heap[blk]? =M (aL (mO nm op (M B) s bB n sp) 140 (0,0)))(hc:jI (λk=>k=blk\/k=B) w0 w1)(I:cG w1.heap.size w1 w2)(s':Int):lD (w2.setCell ⟨blk,3,Z⟩ (N aE s')) B r mb m (λx=>L x&&x != k) cnt/\(w2.setCell ⟨blk,3,Z⟩ (N aE s')).heap[blk]? =M (aL (mO nm op (M B) s' bB n sp) 140 (0,0))/\jI (λk=>k=blk\/k=B) w0 (w2.setCell ⟨blk,3,Z⟩ (N aE s')):=by
 have R:=lg E z.ZE;have h2:=xI E z;have J:w2.heap[blk]? =_:=(I.block _ (jE E)).trans E;refine⟨z.FP ((aW _ _ _ _ (λe=>R e.symm)).trans (I.block _ z.ZE.lt)) ((aW _ _ _ _ (λe=>h2 e.symm)).trans (I.block _ z.lt)),?_,?_⟩
 .have:=jX J 3 (N aE s');simpa[mO]using this
 .exact(hc.trans (.below I jB (λ_=>False)) (λ_ _ e=>e.elim)).trans (jI.set w2 blk 3 _) (λk _ e=>bN e)
def oQ.gone{w3 w4:X}(hl:(l.map (·.num)).Nodup)(hk:n<k)(hx:x∈l.filter (upto n L))(E:x.num=k)(I:w3.heap[blk]? =M (aL (mO nm op (M B) ((Dv.size (l.filter (upto n L)):Int)-x.data.length) bB n sp) 140 (0,0)))(hc:jI (λk=>k=blk\/k=B) w0 w3)(hn:w0.heap.size<=r)(J:lD w4 B r mb (nX (uj (l.filter (upto n L))) k) (λx=>(L x&&x != k)&&x != k) cnt)(R:w3.grownBy w4 (M B))(z:blk≠B):oQ w0 blk B nm op n sp l r (λx=>L x&&x != k) cnt w4:=by
 have Y:(λx=>(L x&&x != k)&&x != k)=(λx=>L x&&x != k):=by funext x;cases L x<;>cases(x != k)<;>rfl
 rw[Y,ZN,Gv l n k L hk]at J;refine⟨J,?_,hc.trans (.grown R) (λj _ e=>cF (by simpa using e.symm)),hn⟩;have hs:=size_drop ((List.filter_sublist.map _).nodup hl) hx;rw[E,Gv l n k L hk]at hs;rw[(R.block blk (jE I) (by simp[z])),I]
 congr 3
 omega
def Z7{p:F->Bool}(z:x∈l.filter p):x.data.length<=Dv.size (l.filter p):=by
 induction l with
 |nil=>simp at z
 |cons y l ih=>
  rw[eG]at z⊢;split
  .rename_i h;rw[ZD h]at z;rw[size_cons];obtain rfl|z:=dD.1 z
   .omega
   .have:=ih z;omega
  .rename_i h;rw[Zs h]at z;exact ih z
def Zm(blk B nm op n:Nat)(sp en:Bool)(la:Nat)(l:List F)(w:X)(ho:w.heap[blk]? =M (aL (mO nm op (M B) (Dv.size l) en la sp) 140 (0,0)))(hm:lS w B mb (uj l))(hl:(l.map (·.num)).Nodup)(hs:Small l)(aa:Dv.size l<=8589934592):eL PQ 118 #[aG (M ⟨blk,0,Z⟩),N mb n] w λe w'=>e=bX (.tuple #[])/\w'.heap[blk]? =M (aL (mO nm op (M B) (Dv.size (l.filter (λx=>decide (x.num<=n)))) bB n sp) 140 (0,0))/\lS w' B mb (uj (l.filter (λx=>decide (x.num<=n))))/\jI (λk=>k=blk\/k=B) w w':=by
 have aj:=lg ho hm;obtain⟨W1,ac⟩:∃W1,W1=(w.setCell ⟨blk,4,Z⟩ (cM bB)).setCell ⟨blk,5,Z⟩ (N mb n):=⟨_,rfl⟩
 obtain⟨-,-,-,-,c4,c5⟩:=Xk ho;have fz:=aQ ho
 have z:W1.heap[blk]? =M (aL (mO nm op (M B) (Dv.size l) bB n sp) 140 (0,0)):=by
  rw[ac];have:=jX (jX ho 4 (cM bB)) 5 (N mb n);simpa[mO]using this
 have a4:lS W1 B mb (uj l):=hm.of_block (by rw[ac,aW _ _ _ _ (λe=>aj e.symm),aW _ _ _ _ (λe=>aj e.symm)])
 have E:jI (λk=>k=blk\/k=B) w W1:=by
  rw[ac];exact((jI.set w blk 4 _).trans (jI.set _ blk 5 _) (λ_ _ e=>e)).mono (λk _ e=>bN e)
 obtain⟨-,-,d2⟩:=cells3 z;have H1:cJ _:=jy z (jy E (jy hl (jy hs aa)));have aq:cJ (lS _ _ _ _):=a4;clear ho hm hl hs aa z a4 E;go_enter (fq Tryz.func118 rfl),Tryz.ntmps118;go_upto_region 2 with fail;rw[<-ac];clear ac;go_wp2_with (first|(at_range;refine xQ _ rfl _ 138 rfl 107 109 _ (uq ki) B _ rfl aq.out ?_;intro w0 a2 ak a8)|go_in)
 go_frame
 have Y:oQ w blk B nm op n sp l W1.heap.size (λk=>decide (k∈(uj l).map cI)) (uj l).length w0:=by
  have ag:l.filter (upto n (λk=>decide (k∈(uj l).map cI)))=l:=iR.2 (λx hx=>by
   unfold upto;have:x.num∈(uj l).map cI:=bM.2 ⟨_,bM.2 ⟨x,hx,rfl⟩,rfl⟩;simp only[this,decide_true,Bool.or_true])
  refine⟨by rw[ag];exact a2,by rw[ag];exact(ak.block _ (jE H1.out.1) aC).trans H1.out.1,H1.out.2.1.trans (.grown ak) (λk _ e=>by simp at e),H1.out.2.1.size⟩
 obtain⟨r,hr⟩:∃r,r=W1.heap.size:=⟨_,rfl⟩
 rw[<-hr]at Y⊢;have ai:cJ (oQ _ _ _ _ _ _ _ _ _ _ _ _):=Y;clear Y a2 ak a8 aq d2 hr;go_loopg [4,5] (uj l).length (λgg _ _ wx=>∃L,cJ (oQ w blk B nm op n sp l r L gg wx))
 case atStart=>exact⟨_,ai⟩
 case round=>
  obtain⟨L,HE⟩:=hrel;clear ai;go_upto_region 4 with(first|(at_next;refine wR _ rfl _ rfl B r _ _ L _ rfl HE.out.rg ?_ ?_)|go_in)
  .intro bk ao;go_wp2_with fail;go_end0;refine⟨rfl,?_,?_,HE.out.jM⟩
   .have:=HE.out.obj
    have e:l.filter (upto n L)=l.filter (λx=>decide (x.num<=n)):=by
     congr 1;funext x;unfold upto;rw[ao];simp
    rw[e]at this;exact this
   .have:=HE.out.rg.ZE
    have e:l.filter (upto n L)=l.filter (λx=>decide (x.num<=n)):=by
     congr 1;funext x;unfold upto;rw[ao];simp
    rw[e]at this;exact this
  .intro k v w1 a5 a7 ah au I aw ay ba af;obtain⟨x,hx,ar,rfl⟩:=aaL ah;obtain⟨z,E⟩:=HE.out.came ay;obtain⟨xc,xn,xd,xl⟩:=x;simp only at ar;subst ar;unfold Jw at af⊢;dsimp only at af⊢;obtain⟨D,hD⟩:∃D:ByteArray,(⟨xd.toArray⟩:ByteArray)=D:=⟨_,rfl⟩
   have R:D.size=xd.length:=by rw[<-hD];rfl
   rw[hD]at af⊢;obtain⟨W2,ae,J,-⟩:=jD w1 #[N dT xc,N mb xn,bE D,.bool xl] 109;have z2:W2.cell? ⟨w1.heap.size,2,Z⟩=M (bE D):=by rw[ae];simp
   have a9:=(jE z)
   have am:W2.heap[blk]? =_:=(J.block _ a9).trans z;obtain⟨S,hS⟩:∃S:Nat,S=Dv.size (l.filter (upto n L)):=⟨_,rfl⟩
   have bj:D.size<=S:=by rw[R,hS];exact Z7 hx
   have bl:S<=8589934592:=by rw[hS];exact bH (Dv.size_filter_le _ _) H1.out.2.2.2.2
   have y3:W2.cell? ⟨blk,3,Z⟩=M (N aE S):=by rw[aI am,hS];rfl
   have bm:=aQ am;have bh:w1.heap.size<W2.heap.size:=by rw[ae];simp
   have HX:cJ _:=jy hx (jy I (jy z (jy E (jy J (jy hS R)))));clear hx I z E J ah au ay ba am hS hD R a7;go_upto_region 5 with fail;rw[<-ae];clear ae af;by_cases hk:xn<=n
   .have a6:¬(n:Int)<xn:=by omega
    go_wp2_with fail;go_roundg a5
    case measure=>exact aw
    case rel=>
     obtain⟨hx,I,z,E,J,hS,R⟩:=HX.out;exact⟨_,oQ.stay I z E HE.out.new hk J⟩
   .have a6:(n:Int)<xn:=by omega
    have bd:blk≠w1.heap.size:=aA
    go_upto_region 6 with fail;go_cut [29] (λv wx=>cJ (∃W5,cG w1.heap.size w1 W5/\wx=W5.setCell ⟨blk,3,Z⟩ (N aE ((S:Int)-D.size))))
    case first=>
     go_region
     all_goals
      go_wp2_with fail;go_meet;exact⟨_,HX.out.2.2.2.2.1.drew,rfl⟩
    case rest=>
     obtain⟨W5,bb,rfl⟩:=hcut.out;obtain⟨hx,I,z,E,J,hS,R⟩:=HX.out;obtain⟨q1,q2,q3⟩:=oQ.less I z E bb (S-D.size);obtain⟨W6,an⟩:∃W6,W6=W5.setCell ⟨blk,3,Z⟩ (N aE ((S:Int)-D.size)):=⟨_,rfl⟩
     rw[<-an]at q1 q2 q3⊢;obtain⟨-,-,y2⟩:=cells3 q2;have HQ:cJ _:=jy q1 (jy q2 q3);clear hx I z E J hS R q1 q2 q3 an hcut;go_wp2_with (first|(at_delete;(refine uM _ rfl _ _ 138 107 rfl 109 _ (uq ki) (uq pm) B r _ _ _ xn rfl rfl HQ.out.1 ?_;intro w7 ap av bg a1 a3;have az:cJ _:=jy av (jy a1 a3);clear av a1 a3;go_frame))|go_in)
     go_roundg ap
     case measure=>omega
     case rel=>
      obtain⟨hx,I,z,E,J,hS,R⟩:=HX.out;have a0:=HQ.out.2.1;rw[hS,R]at a0;exact⟨_,oQ.gone (k:=xn) H1.out.2.2.1 aA hx rfl a0 HQ.out.2.2 HE.out.new az.out.1 az.out.2.1 aj⟩
end
section
variable {l:List F}{f:F}{c:Ch}{w0 w w':X}{blk B nm op s la:Nat}{en:Bool}
def Z8(h:f.num∉l.map (·.num)):vG (uj l) f.num (Jw f)=uj (l++[f]):=by
 unfold vG
 have:f.num∉(uj l).map cI:=by
  unfold uj;rw[jr];exact h
 rw[Zs this];unfold uj;simp
def Vf(z:f.last=bB):Dv.grown c f=(c.l++[f]).filter (λx=>decide (x.num<=f.num)):=by
 unfold Dv.grown
 congr 1
 funext x;unfold Dv.goes;rw[z,Bool.true_and,<-decide_not];exact decide_eq_decide.2 aA
def J7(z:f.last=aR):Dv.grown c f=c.l++[f]:=by unfold Dv.grown;refine iR.2 (λx _=>?_);unfold Dv.goes;rw[z];simp
def Lh(h:Small c.l)(E:f.num<65536/\f.data.length<=65536):Small (Dv.grown c f):=by
 intro x z;unfold Dv.grown at z;obtain z|z:=dM.1 (fU.1 z).1
 .exact h x z
 .rw[dK.1 z];exact E
def Jp(h:f.num∉l.map (·.num))(I:(l.map (·.num)).Nodup):((l++[f]).map (·.num)).Nodup:=by rw[bJ];refine List.nodup_append.2 ⟨I,aC,λa E b z e=>?_⟩;simp at z;subst z;exact h (e ▸ E)
structure rG(w0:X)(blk B nm op:Nat)(l:List F)(s:Nat)(en:Bool)(la:Nat)(w:X):Prop where
 obj:w.heap[blk]? =M (aL (mO nm op (M B) s en la aR) 140 (0,0))
 map:lS w B mb (uj l)
 jM:jI (λk=>k=blk\/k=B) w0 w
def rG.kept(h:rG w0 blk B nm op l s en la w)(z:cG w.heap.size w w'):rG w0 blk B nm op l s en la w':=
 ⟨(z.block _ (jE h.obj)).trans h.obj,h.map.of_block (z.block _ h.map.lt),h.jM.trans (.below z jB (λ_=>False)) (λ_ _ e=>e.elim)⟩
def rG.put{l':List F}(h:rG w0 blk B nm op l s en la w)(I:lS w' B mb (uj l'))(E:w.grownBy w' (M B)):rG w0 blk B nm op l' s en la w':=by have z:=lg h.obj h.map;exact⟨(E.block _ (jE h.obj) (by simp[z])).trans h.obj,I,h.jM.trans (.grown E) (λk _ e=>cF (by simpa using e.symm))⟩
def rG.size(h:rG w0 blk B nm op l s en la w)(s':Nat):rG w0 blk B nm op l s' en la (w.setCell ⟨blk,3,Z⟩ (N aE s')):=by have z:=lg h.obj h.map;refine⟨?_,h.map.of_block (aW _ _ _ _ (λe=>z e.symm)),h.jM.trans (jI.set w blk 3 _) (λk _ e=>bN e)⟩;have:=jX h.obj 3 (N aE s');simpa[mO]using this
def rG.abN(h:rG w0 blk B nm op l s en la w)(z:la<65536):ChanAt ((w.setCell ⟨blk,6,Z⟩ (cM bB)).setCell ⟨blk,2,Z⟩ (.map Z)) ⟨blk,Z,⟨nm,op,[],bB⟩,s,en,la⟩/\jI (λk=>k=blk\/k=B) w0 ((w.setCell ⟨blk,6,Z⟩ (cM bB)).setCell ⟨blk,2,Z⟩ (.map Z)):=by refine⟨⟨?_,Dv.Kz,λx E=>by simp at E,z,λh=>by simp at h,λ_=>⟨rfl,rfl⟩⟩,(h.jM.trans (jI.set w blk 6 _) (λk _ e=>bN e)).trans (jI.set _ blk 2 _) (λk _ e=>bN e)⟩;have:=jX (jX h.obj 6 (cM bB)) 2 (.map Z);simpa[mO,vW]using this
def rG.sound(h:rG w0 blk B nm op l s en la w)(z:la<65536)(I:Fine l)(hs:Small l)(R:en=(Dv.last l).isSome)(J:∀n,Dv.last l=M n->la=n)(E:s=Dv.size l)(Y:Dv.size l<=4294967296):ChanAt w ⟨blk,M B,⟨nm,op,l,aR⟩,s,en,la⟩:=
 ⟨h.obj,I,hs,z,λ_=>⟨⟨B,rfl,h.map⟩,by simp[E],Y,R,J⟩,λh=>by simp at h⟩
def VX(o:PC)(f:F)(most:Int)(w:X)(h:ChanAt w o)(hb:Dv.oM o.ch f=aR)(hf:f.num<65536/\f.data.length<=65536)(bj:0<=most/\most<=4294967296):eL PQ 77 #[aG (M ⟨o.blk,0,Z⟩),Jw f,N aE most] w λe w'=>e=bX (.tuple #[])/\∃o':PC,o'.blk=o.blk/\o'.ch=Dv.joined most o.ch f/\(o'.fm=o.fm\/o'.fm=Z)/\ChanAt w' o'/\jI (λk=>k=o.blk\/o.fm=M k) w w':=by
 obtain⟨b1,b2,b3⟩:=Dv.yX hb;obtain⟨blk,fm,⟨nm,op,l,sp⟩,sz,en,la⟩:=o;dsimp only at b1 b2 b3⊢;subst b2;obtain⟨⟨B,hB,hm⟩,a3,ak,ai,ah⟩:=h.sound rfl;dsimp only at hB hm a3 ai ah ak;subst hB a3;obtain⟨c1,bg⟩:∃c:Ch,c=⟨nm,op,l,aR⟩:=⟨_,rfl⟩
 have E:=Dv.NS h.fine hb;have I:=Lh h.small hf;have z:=Dv.Bq hb
 have hj:Dv.joined most ⟨nm,op,l,aR⟩ f=(if most<(Dv.size (Dv.grown ⟨nm,op,l,aR⟩ f):Int)then⟨nm,op,[],bB⟩else⟨nm,op,Dv.grown ⟨nm,op,l,aR⟩ f,aR⟩):=by
  unfold Dv.joined;rw[hb];rfl
 obtain⟨fc,fn,fd,ae⟩:=f;unfold Jw;dsimp only at *;obtain⟨D,hD⟩:∃D:ByteArray,(⟨fd.toArray⟩:ByteArray)=D:=⟨_,rfl⟩
 have ag:D.size=fd.length:=by rw[<-hD];rfl
 rw[hD];obtain⟨W,hW,a9,-⟩:=jD w #[N dT fc,N mb fn,bE D,.bool ae] 109;have hk:rG w blk B nm op l (Dv.size l) en la W:=rG.kept ⟨h.obj,hm,jI.refl _ _⟩ a9;have aw:=hk.kept (aJ _ W).drew;obtain⟨w2,Y,aq,az,bb⟩:=aw.map.update (P:=PQ) (uq ki) (uq pm) fn (Jw ⟨fc,fn,fd,ae⟩);have am:=Z8 (l:=l) (f:=⟨fc,fn,fd,ae⟩) b1;dsimp only at am;rw[am]at aq;have aa:=aw.put aq az;unfold Jw at Y;dsimp only at Y;rw[hD]at Y;have bk:blk<w.heap.size:=(jE h.obj)
 obtain⟨-,-,e2⟩:=cells3 hk.obj;have bd:w.heap.size<W.heap.size:=by rw[hW];simp
 have zo:W.heap[w.heap.size]? =M (aL #[N dT fc,N mb fn,bE D,.bool ae] 109 (0,0)):=by rw[hW];exact heap_alloc_new _ _
 obtain⟨z0,z1,z2,z3⟩:=cells4 zo;have ac:w2.heap[w.heap.size]? =_:=(az.block _ (show _<W.heap.size from bd) (by simp;have:=hm.lt;omega)).trans zo;obtain⟨-,y1,y2,y3⟩:=cells4 ac;have x3:w2.cell? ⟨blk,3,Z⟩=M (N aE (Dv.size l:Int)):=mZ aa.obj rfl;have fz:=aQ aa.obj;obtain⟨S,hS⟩:∃S,Dv.size l=S:=⟨_,rfl⟩
 have J:Dv.size (l++[⟨fc,fn,fd,ae⟩])=S+D.size:=by rw[Dv.size_append,hS,ag]
 rw[hS]at x3 aa ak;have bl:D.size<=65536:=by rw[ag];exact hf.2
 have H:cJ _:=jy h (jy E (jy I (jy z (jy aa (jy J (jy ai (jy ah (jy hb (jy b1 (jy b3 (jy hf (jy ac (jy ag hj)))))))))))));have ba:blk≠w.heap.size:=aA
 clear h E I z hk aw aa J ai ah b1 b3 hm aq az bb am hj bg a9 hS hD hb hf zo ac c1 ag;go_enter (fq Tryz.func77 rfl),Tryz.ntmps77;go_upto_region 1 with fail;rw[<-hW];clear hW;go_cut [12] (λ_ wx=>wx=w2)
 case first=>
  go_region
  all_goals
   go_wp2_with fail;go_meet;rfl
 case rest=>
  subst hcut;clear e2 z0 z1 z2 z3 Y;go_upto_region 2 with fail;go_cut [16] (λ_ wx=>cJ (∃W5,cG wc.heap.size wc W5/\wx=W5.setCell ⟨blk,3,Z⟩ (N aE ((S+D.size:Nat):Int))))
  case first=>
   go_region
   all_goals
    go_wp2_with fail;go_meet;exact⟨_,(aJ _ _).drew,by rw[Int.natCast_add];rfl⟩
  case rest=>
   obtain⟨W5,ao,rfl⟩:=hcut.out;obtain⟨h,E,I,z,aa,J,ai,ah,hb,b1,b3,hf,ac,ag,hj⟩:=H.out;have R:=(aa.kept ao).size (S+D.size);have an:(W5.setCell ⟨blk,3,Z⟩ (N aE ((S+D.size:Nat):Int))).heap[w.heap.size]? =_:=((aW _ _ _ _ ba.symm).trans (ao.block _ (jE ac))).trans ac;obtain⟨W6,ap⟩:∃W6,W6=W5.setCell ⟨blk,3,Z⟩ (N aE ((S+D.size:Nat):Int)):=⟨_,rfl⟩
   rw[<-ap]at R an⊢;obtain⟨-,y1,-,y3⟩:=cells4 an;have a0:=Jp (l:=l) (f:=⟨fc,fn,fd,ae⟩) b1 h.fine.apart;cases ae
   .have hg:=J7 (c:=⟨nm,op,l,aR⟩) (f:=⟨fc,fn,fd,aR⟩) rfl;dsimp only at hg;rw[hg]at E I z hj;rw[J]at hj;have x3:W6.cell? ⟨blk,3,Z⟩=M (N aE ((S+D.size:Nat):Int)):=mZ R.obj rfl;obtain⟨-,-,x2,-,-,-,x6⟩:=Dn R.obj;have bh:=aQ R.obj;have H6:cJ _:=jy R (jy E (jy I (jy z (jy h.lastLt (jy ai (jy ah (jy J hj)))))));clear h E I z aa J ai ah hb b1 b3 hf ac R an ap ao hcut hg a0 fz ag hj;by_cases au:most<((S+D.size:Nat):Int)
    .have a2:most<(S:Int)+(D.size:Int):=by omega
     go_wp2_with fail;go_end0;obtain⟨q1,q2⟩:=rG.abN H6.out.1 H6.out.2.2.2.2.1;obtain⟨k5,k1,k2,k3,k4,k6,k7,k8,kj⟩:=H6.out;rw[ZD au]at kj;exact⟨rfl,_,rfl,kj.symm,cF rfl,q1,q2.mono (λk _ e=>e.imp id (λe=>by rw[e]))⟩
    .have a2:¬most<(S:Int)+(D.size:Int):=by omega
     go_wp2_with fail;go_end0;obtain⟨k5,k1,k2,k3,k4,k6,k7,k8,kj⟩:=H6.out;rw[Zs aA]at kj;simp only[bU,if_false,Option.or_none]at k3;refine⟨rfl,_,rfl,kj.symm,bN rfl,rG.sound k5 k4 k1 k2 (by rw[k3];exact k6) (λn hn=>k7 n (by rw[<-k3];exact hn)) k8.symm aA,k5.jM.mono (λk _ e=>e.imp id (λe=>by rw[e]))⟩
   .have hg:=Vf (c:=⟨nm,op,l,aR⟩) (f:=⟨fc,fn,fd,bB⟩) rfl;dsimp only at hg;rw[hg]at E I z hj
    have af:=Zm blk B nm op fn aR en la _ W6 (by rw[J];exact R.obj) R.map a0 (λx hx=>by
     obtain hx|hx:=dM.1 hx
     .exact h.small x hx
     .rw[dK.1 hx];exact hf) (by rw[J];omega)
    obtain⟨l2,av⟩:∃l2:List F,l2=(l++[(⟨fc,fn,fd,bB⟩:F)]).filter (λx=>decide (x.num<=fn)):=⟨_,rfl⟩
    rw[<-av]at af E I z hj;have ar:cJ _:=λ(_:Unit)=>af
    have a4:Dv.last l=Z:=by
     cases hx:Dv.last l with
     |none=>rfl
     |some n=>have:=(b3 n hx).1;cases this
    have a7:Dv.size l2<=S+D.size:=by rw[av,<-J];exact Dv.size_filter_le _ _
    obtain⟨S2,a8⟩:∃S2,Dv.size l2=S2:=⟨_,rfl⟩
    rw[a8]at a7 hj;have H6:cJ _:=jy R (jy E (jy I (jy z (jy hf.1 (jy a4 (jy a8 hj))))));clear h E I z aa J ai ah hb b1 b3 hf ac R an ap ao hcut hg a0 fz ag hj af av a4;go_upto_region 5 with(first|(go_at_call 118;refine aT (ar.out ()) ?_;rintro e w7 ⟨rfl,aj,a5,a6⟩)|go_in)
    obtain⟨k5,k1,k2,k3,k4,k6,kS,kj⟩:=H6.out;rw[kS]at aj;have a1:rG w blk B nm op l2 S2 bB fn w7:=⟨aj,a5,k5.jM.trans a6 (λ_ _ e=>e)⟩
    have x3:w7.cell? ⟨blk,3,Z⟩=M (N aE (S2:Int)):=mZ aj rfl;obtain⟨-,-,x2,-,-,-,x6⟩:=Dn aj;have bm:=aQ aj;have ay:cJ (rG _ _ _ _ _ _ _ _ _ _):=a1;clear aj a5 a6 a1 k5 k1 k2 k3 k4 k6 kS kj;by_cases au:most<(S2:Int)
    .go_wp2_with fail;go_end0;obtain⟨k5,k1,k2,k3,k4,k6,kS,kj⟩:=H6.out;obtain⟨q1,q2⟩:=rG.abN ay.out k4;rw[ZD au]at kj;exact⟨rfl,_,rfl,kj.symm,cF rfl,q1,q2.mono (λk _ e=>e.imp id (λe=>by rw[e]))⟩
    .go_wp2_with fail;go_end0;obtain⟨k5,k1,k2,k3,k4,k6,kS,kj⟩:=H6.out;rw[Zs aA]at kj;rw[k6]at k3;simp only[if_true,Option.none_or]at k3;refine⟨rfl,_,rfl,kj.symm,bN rfl,rG.sound ay.out k4 k1 k2 (by rw[k3];rfl) (λn hn=>by rw[k3]at hn;exact fC hn) kS.symm aA,ay.out.jM.mono (λk _ e=>e.imp id (λe=>by rw[e]))⟩
end
section
variable {k nb n b:Nat}{XS:Nat->Prop}{w w':X}{o:PC}{vo:aD}{nm:AL}{os:List PC}
def ptr(b:Nat):aD:=aG (M ⟨b,0,Z⟩)
structure Chs(w:X)(nb:Nat)(vo:aD)(nm:AL)(os:List PC):Prop where
 named:lS w nb dT nm
 order:Row w 136 1 vo os.length (os.map λo=>ptr o.blk)
 chans:∀o,o∈os->ChanAt w o
 apart:(os.map (·.blk)).Nodup
 maps:∀o o',o∈os->o'∈os->∀b,o.fm=M b->o'.fm=M b->o.blk=o'.blk
 far:∀o,o∈os->o.fm≠M nb
 entries:∀p,p∈nm->∃o,o∈os/\p=(o.ch.name,ptr o.blk)
def Own(nb:Nat)(vo:aD)(os:List PC)(k:Nat):Prop:=k=nb\/vo.ownBlock=M k\/∃o,o∈os/\(k=o.blk\/o.fm=M k)
def alive(nm:AL)(o:PC):Bool:=match l9 nm o.ch.name with
 |some (aG (M a))=>a.block == o.blk
 |_=>aR
def lives(nm:AL)(os:List PC):List Ch:=(os.filter (alive nm)).map (·.ch)
def LZ{m:AL}{v:aD}(h:l9 m k=M v):(k,v)∈m:=by
 unfold l9 at h;rw[bI]at h
 grind
def ChanAt.jM(h:ChanAt w o)(hc:jI XS w w')(E:¬XS o.blk)(h2:∀b,o.fm=M b->¬XS b):ChanAt w' o:=by refine⟨(hc.block _ (jE h.obj) E).trans h.obj,h.fine,h.small,h.lastLt,λhs=>?_,h.spoilt⟩;obtain⟨⟨B,e,z⟩,a,b,c,d⟩:=h.sound hs;exact⟨⟨B,e,z.of_block (hc.block _ z.lt (h2 B e))⟩,a,b,c,d⟩
def Chs.jM(h:Chs w nb vo nm os)(hc:jI XS w w')(z:∀k,Own nb vo os k->¬XS k):Chs w' nb vo nm os:=
 ⟨h.named.of_block (hc.block _ h.named.lt (z _ (bN rfl))),h.order.jM hc (λg J=>z g (cF (bN J))),λo E=>(h.chans o E).jM hc (z _ (cF (cF ⟨o,E,bN rfl⟩))) (λb I=>z b (cF (cF ⟨o,E,cF I⟩))),h.apart,h.maps,h.far,h.entries⟩
def Chs.below(h:Chs w nb vo nm os)(z:cG w.heap.size w w'):Chs w' nb vo nm os:=h.jM (.below z jB (λ_=>False)) (λ_ _ e=>e)
def Chs.qZ(h:Chs w nb vo nm os)(hk:Own nb vo os k):k<w.heap.size:=by
 obtain rfl|hk|⟨o,z,rfl|hk⟩:=hk
 .exact h.named.lt
 .exact h.order.lt hk
 .exact(dY.1 (h.chans o z).obj).1
 .cases hs:o.ch.spoilt
  .obtain⟨⟨B,e,E⟩,_⟩:=(h.chans o z).sound hs;rw[e]at hk;cases hk;exact E.lt
  .rw[((h.chans o z).spoilt hs).2]at hk;cases hk
def Chs.lK(h:Chs w nb vo nm os){cs:Array aD}{t:Nat}{E:Nat×Nat}(hk:w.heap[k]? =M (aL cs t E))(Y:t≠136)(h2:t≠140):¬Own nb vo os k:=by
 rintro(rfl|e|⟨o,z,rfl|e⟩)
 .exact lg hk h.named rfl
 .obtain⟨I,hc⟩:=h.order.obj e
  grind
 .have hc:=(h.chans o z).obj;unfold vW at hc
  grind
 .cases hs:o.ch.spoilt
  .obtain⟨⟨B,R,J⟩,_⟩:=(h.chans o z).sound hs;rw[R]at e;cases e;exact lg hk J rfl
  .rw[((h.chans o z).spoilt hs).2]at e;cases e
def Chs.get(h:Chs w nb vo nm os):l9 nm n=Z\/∃o,o∈os/\o.ch.name=n/\l9 nm n=M (ptr o.blk):=by
 cases z:l9 nm n with
 |none=>exact bN rfl
 |some v=>
  obtain⟨o,E,e⟩:=h.entries _ (LZ z)
  grind
def pX(h:l9 nm o.ch.name=M (ptr b)):alive nm o=(b == o.blk):=by unfold alive;rw[h];rfl
def sH(h:l9 nm o.ch.name=Z):alive nm o=aR:=by unfold alive;rw[h]
def afv(w:X):(sizeOf 140).run PQ w=.ok 7 w:=XN
def agD{a:Nat}{J z:Array aD}{ta tb:TypeId}(E:w.heap[a]? =M (aL J ta (0,0)))(R:w.heap[b]? =M (aL z tb (0,0))):(binOp .eql 136 (aG (M ⟨a,0,Z⟩)) (aG (M ⟨b,0,Z⟩))).run PQ w=.ok (.bool (a == b)) w:=by
 have I:(sameAddr ⟨a,0,Z⟩ ⟨b,0,Z⟩).run PQ w=.ok (a == b) w:=by
  by_cases e:a=b
  .subst e;rw[run_sameAddr_same];simp
  .rw[run_sameAddr_other w (a:=⟨a,0,Z⟩) (b:=⟨b,0,Z⟩) (λh=>e (Z1 Addr.block h)) E R,show(a == b)=aR from ZS e]
 have h2:(Op.equal 136 (aG (M ⟨a,0,Z⟩)) (aG (M ⟨b,0,Z⟩))).run PQ w=.ok (a == b) w:=by
  unfold Op.equal Op.maxDepth
  show(Op.equalIn (9999+1) _ _ _).run _ _=_
  unfold Op.equalIn;simp only[iU,eB (uq Tryz.underlying136),Result.andThen,afv];simp[I]
 simp only[binOp];simp[h2]
def Xl:(binOp .eql 136 (aG Z) (aG (M ⟨b,0,Z⟩))).run PQ w=.ok (cM aR) w:=by
 have h2:(Op.equal 136 (aG Z) (aG (M ⟨b,0,Z⟩))).run PQ w=.ok aR w:=by
  unfold Op.equal Op.maxDepth
  show(Op.equalIn (9999+1) _ _ _).run _ _=_
  unfold Op.equalIn;simp only[iU,eB (uq Tryz.underlying136),Result.andThen];rfl
 simp only[binOp];simp[h2]
structure Core(w:X)(nb:Nat)(nm:AL)(os:List PC):Prop where
 named:lS w nb dT nm
 objs:∀o,o∈os->w.heap[o.blk]? =M (vW o)
 entries:∀p,p∈nm->∃o,o∈os/\p=(o.ch.name,ptr o.blk)
def Chs.core(h:Chs w nb vo nm os):Core w nb nm os:=⟨h.named,λo z=>(h.chans o z).obj,h.entries⟩
def Core.get(h:Core w nb nm os):l9 nm n=Z\/∃o,o∈os/\o.ch.name=n/\l9 nm n=M (ptr o.blk):=by
 cases z:l9 nm n with
 |none=>exact bN rfl
 |some v=>
  obtain⟨o,E,e⟩:=h.entries _ (LZ z)
  grind
def Core.jM(h:Core w nb nm os)(hc:jI XS w w')(E:¬XS nb)(h2:∀o,o∈os->¬XS o.blk):Core w' nb nm os:=
 ⟨h.named.of_block (hc.block _ h.named.lt E),λo z=>(hc.block _ (dY.1 (h.objs o z)).1 (h2 o z)).trans (h.objs o z),h.entries⟩
def Core.drewN(h:Core w nb nm os)(m:Nat):Core (w.drewN m) nb nm os:=⟨h.named.of_block rfl,h.objs,h.entries⟩
def rU(s nb:Nat)(i:Nat)(nm:AL)(os:List PC)(o:PC)(w:X)(h:Core w nb nm os)(Y:o∈os)(hs:w.cell? ⟨s,i,Z⟩=M (.map (M nb))):eL PQ 67 #[aG (M ⟨s,i,Z⟩),ptr o.blk] w λe w'=>e=bX (.bool (alive nm o))/\∃m,w'=w.drewN m:=by
 have E:=h.objs o Y;have c0:=kJ E;have z:=(h.named.of_block (w':=w.drew) rfl).lookup (P:=PQ) (uq Tryz.underlying93) (uq Tryz.underlying22) (Xp _) o.ch.name aR;simp only[bU,if_false]at z;obtain⟨r,J⟩:∃r,alive nm o=r:=⟨_,rfl⟩
 rw[J];unfold ptr;obtain I|⟨o',aa,hn,I⟩:=h.get (n:=o.ch.name)
 .rw[I]at z;simp only[Option.getD_none]at z;rw[sH I]at J;subst J;have R:=Xl (w:=w.drew) (b:=o.blk);clear h Y E I;go_enter (fq Tryz.func67 rfl),Tryz.ntmps67;go_wp2_with fail;go_region
  all_goals
   go_wp2_with fail;go_ret;exact⟨rfl,1,rfl⟩
 .rw[I]at z;simp only[fH]at z;unfold ptr at z;rw[pX I]at J;have R:=agD (w:=w.drew) (h.objs o' aa) E;rw[J]at R;clear h Y E I J;go_enter (fq Tryz.func67 rfl),Tryz.ntmps67;go_wp2_with fail;go_region
  all_goals
   go_wp2_with fail;go_ret;exact⟨rfl,1,rfl⟩
end
open Dv (Cf X2 Tx)
open Fr (below_drewN)
section
variable {w:X}
abbrev PU:=X2×aD×aD
variable {ps:List PU}
def oq(p:PU):List aD:=[N aE p.1.id,N aE p.1.time,p.2.1,p.2.2]
def oz(w:X)(v:aD)(ps:List PU):Prop:=Rd w 4 v ps.length (ps.flatMap oq)/\∀p,p∈ps->kW w p.1 p.2.1 p.2.2
def oz.below{w':X}{v:aD}(h:oz w v ps)(z:cG w.heap.size w w'):oz w' v ps:=⟨Rd.below h.1 z,λp hp=>(h.2 p hp).below z⟩
def oz.get{g off cap:Nat}(h:oz w (aM (M ⟨g,off,Z⟩) ps.length cap) ps){j:Nat}{p:PU}(z:ps[j]? =M p):w.cell? ⟨g,off+j*4,Z⟩=M (N aE p.1.id)/\w.cell? ⟨g,off+j*4+1,Z⟩=M (N aE p.1.time)/\w.cell? ⟨g,off+j*4+2,Z⟩=M p.2.1/\w.cell? ⟨g,off+j*4+3,Z⟩=M p.2.2:=by
 have k:=λi u hi (E:(oq p)[i]? =M u)=>Rd.rec oq 4 (λ_=>rfl) h.1 z hi E;exact⟨k 0 _ aA rfl,k 1 _ aA rfl,k 2 _ aA rfl,k 3 _ aA rfl⟩
def JE(us:List X2)(i:Nat)(u:X2)(E:us[i]? =M u)(b:Option Int):Dv.kF b (us.drop i)=(Dv.lY b u&&Dv.kF (M u.time) (us.drop (i+1))):=by obtain⟨z,rfl⟩:=aN.1 E;rw[List.drop_eq_getElem_cons z,Dv.kF]
def RF(us:List X2)(i:Nat)(h:us.length<=i)(b:Option Int):Dv.kF b (us.drop i)=bB:=by rw[List.drop_eq_nil_of_le h,Dv.kF]
def GK(v:aD)(ps:List PU)(w:X)(h:oz w v ps)(hl:ps.length<=4294967296):eL PQ 29 #[v] w λe w'=>e=bX (.bool (Dv.jS (ps.map cI)))/\cG w.heap.size w w':=by
 obtain⟨r,hr⟩:∃r,Dv.jS (ps.map cI)=r:=⟨_,rfl⟩
 rw[hr]
 have hd:Dv.jS (ps.map cI)=((decide ((1:Int)<=ps.length)&&decide ((ps.length:Int)<=60))&&Dv.kF Z (ps.map cI)):=by
  unfold Dv.jS;rw[bC,Bool.decide_and]
  congr 2
  .exact decide_eq_decide.2 aA
  .exact decide_eq_decide.2 aA
 rw[hr]at hd;have c1:=λW=>ng ps.length 1 60 W;obtain⟨b1,ac⟩:∃b,(decide ((1:Int)<=ps.length)&&decide ((ps.length:Int)<=60))=b:=⟨_,rfl⟩
 rw[ac]at c1 hd;have C1:cJ _:=c1;clear c1 hr;cases b1
 .obtain⟨a,cap,rfl⟩:=Rd.slice h.1;have Hd:cJ _:=hd;clear hd ac h;go_enter (fq Tryz.func29 rfl),Tryz.ntmps29;go_wp2_with (go_at_call 35;refine aT (C1.out _) ?_;rintro e w2 ⟨rfl,J⟩;obtain rfl:=J.symm)
  go_ret;exact⟨by rw[Hd.out];rfl,aJ _ _⟩
 .have h1:1<=ps.length/\ps.length<=60:=by
   simp only[dF,Z3]at ac;omega
  obtain⟨g,off,cap,rfl,a3,hg,_⟩:=Rd.pos h.1 aA;obtain⟨p0,I⟩:∃p,ps[0]? =M p:=⟨_,aO aA⟩
  obtain⟨k0,k1,k2,k3⟩:=h.get I;simp only[Nat.zero_mul,Nat.add_zero]at k0 k1 k2 k3;have ah:(ps.map cI)[0]? =M p0.1:=by rw[fE,I];rfl
  have c2:=λW hb=>first_any _ _ _ W ((h.2 p0 (aX I)).below hb);have ae:=JE _ 0 _ ah Z;rw[List.drop_zero,Eh]at ae;rw[ae]at hd;obtain⟨b2,E⟩:∃b,mM p0.1=b:=⟨_,rfl⟩
  rw[E]at c2 hd;unfold Ku at c2;obtain⟨ta,tc,Y⟩:=Rd.slice (h.2 p0 (aX I)).1;obtain⟨la,lc,aa⟩:=Rd.slice (h.2 p0 (aX I)).2.1;rw[Y]at c2 k2;rw[aa]at c2 k3;have C2:cJ _:=c2;have a0:(1:Int)<=ps.length:=aA
  have a2:(ps.length:Int)<=cap:=aA
  have ay:(0:Int)<ps.length:=aA
  cases b2
  .have Hd:cJ _:=hd;clear hd ac h c2 ae ah Y aa I;go_enter (fq Tryz.func29 rfl),Tryz.ntmps29;go_wp2_with (first|(go_at_call 35;refine aT (C1.out _) ?_;rintro e w2 ⟨rfl,J⟩;obtain rfl:=J.symm)|(go_at_call 18;refine aT (C2.out _ ?_) ?_;exact aJ _ _;rintro e w2 ⟨rfl,E⟩)|fail)
   go_ret;exact⟨by rw[Hd.out];rfl,E⟩
  .have an:0<=p0.1.time/\p0.1.time<=1000000:=by
    unfold mM at E;simp only[dF,Z3]at E;exact E.1
   by_cases aq:cap=1
   .have au:ps.length=1:=by omega
    have hr:r=bB:=by
     rw[hd,RF _ _ (by rw[bC];omega)];rfl
    subst aq;have Hr:cJ _:=hr;rw[au]at C1⊢;clear hd ac h c2 ae ah Y aa I an hr;go_enter (fq Tryz.func29 rfl),Tryz.ntmps29;go_wp2_with (first|(go_at_call 35;refine aT (C1.out _) ?_;rintro e w2 ⟨rfl,J⟩;obtain rfl:=J.symm)|(go_at_call 18;refine aT (C2.out _ ?_) ?_;exact aJ _ _;rintro e w2 ⟨rfl,E⟩)|fail)
    have ak:cJ _:=E;clear E;go_loopg [3,4,19] 0 (λgg _ _ aj wx=>aj=N aE 0/\wx=w2)
    case atStart=>exact⟨rfl,rfl⟩
    case round=>
     obtain⟨rfl,rfl⟩:=hrel;go_wp2_with fail;go_ret;exact⟨by rw[Hr.out];rfl,ak.out⟩
   .have Hd:cJ _:=hd;have H:cJ _:=jy h (jy I an);clear hd ac h c2 ae ah Y aa I an;go_enter (fq Tryz.func29 rfl),Tryz.ntmps29;go_wp2_with (first|(go_at_call 35;refine aT (C1.out _) ?_;rintro e w2 ⟨rfl,J⟩;obtain rfl:=J.symm)|(go_at_call 18;refine aT (C2.out _ ?_) ?_;exact aJ _ _;rintro e w2 ⟨rfl,E⟩)|fail)
    have ak:cJ _:=E;clear E k0 k1 k2 k3;go_loopg [3,4,19] ps.length (λgg _ _ aj wx=>∃(i:Nat)(p:PU),i+1<=ps.length/\aj=N aE i/\gg=ps.length-i/\cJ (ps[i]? =M p/\(0<=p.1.time/\p.1.time<=1000000+24*i)/\r=Dv.kF (M p.1.time) ((ps.map cI).drop (i+1))/\cG w.heap.size w wx))
    case atStart=>exact⟨0,p0,aA,rfl,rfl,H.out.2.1,by have:=H.out.2.2;omega,by rw[Hd.out];simp,ak.out⟩
    case round=>
     obtain⟨i,p,hi,rfl,rfl,HI⟩:=hrel;obtain⟨hp,ai,af,R⟩:=HI.out;by_cases av:i+1<ps.length
     .obtain⟨q,hq⟩:∃q,ps[i+1]? =M q:=⟨_,aO av⟩
      have hU:=H.out.1.below R;obtain⟨k0,k1,k2,k3⟩:=hU.get hq;obtain⟨_,kt,_,_⟩:=hU.get hp;rw[show off+(i+1)*4=off+4+i*4 from by omega]at k0 k1 k2 k3;obtain⟨ta,tc,Y⟩:=Rd.slice (hU.2 q (aX hq)).1;obtain⟨la,lc,aa⟩:=Rd.slice (hU.2 q (aX hq)).2.1;have c3:=λW hb=>next_any p.1.time _ _ _ W ((hU.2 q (aX hq)).below hb) aA;have ag:=JE (ps.map cI) (i+1) q.1 (by rw[fE,hq];rfl) (M p.1.time);rw[U2]at ag;obtain⟨b3,am⟩:∃b,mY p.1.time q.1=b:=⟨_,rfl⟩
      rw[am]at c3 ag;unfold Ku at c3;rw[Y]at c3 k2;rw[aa]at c3 k3;obtain⟨W,hW,z,-⟩:=jD wr #[N aE q.1.id,N aE q.1.time,.slice ta q.1.txs.length tc,.slice la q.1.logs.length lc] 28;have a4:=(z.cell (p:=⟨g,_,Z⟩) (by have:=R.size;show g<_;omega)).trans kt;have z0:W.cell? ⟨wr.heap.size,0,Z⟩=M (N aE q.1.id):=by rw[hW];simp
      have z1:W.cell? ⟨wr.heap.size,1,Z⟩=M (N aE q.1.time):=by rw[hW];simp
      have z2:W.cell? ⟨wr.heap.size,2,Z⟩=M (.slice ta q.1.txs.length tc):=by rw[hW];simp
      have z3:W.cell? ⟨wr.heap.size,3,Z⟩=M (.slice la q.1.logs.length lc):=by rw[hW];simp
      have C3:cJ _:=c3;have ap:cJ _:=jy ag (jy af (jy hq (jy R (jy am (jy ai z)))));have aw:(i:Int)<ps.length-1:=aA
      have az:(i:Int)<ps.length:=aA
      clear c3 ag af hq Y aa hU hp R am ai;have ar:i<ps.length-1:=aA
      go_upto_region 6 with fail;rw[<-hW];clear hW;have a1:=aJ W.heap.size W;cases b3
      .go_region_with (go_at_call 40;(refine aT (C3.out _ ?_) ?_;(first|exact z|exact z.drew|exact below_drewN z _);rintro e w5 ⟨rfl,ao⟩))
       all_goals
        go_wp2_with fail;go_ret;obtain⟨q1,q2,q3,q4,q5,q6,q7⟩:=ap.out;refine⟨by rw[q2,q1];rfl,q4.trans ((Below.trans ?_ (ao.mono ?_)).mono q4.size)⟩
        .first|exact z|exact z.drew|exact below_drewN z _
        .first|exact z.size|exact z.drew.size|exact(below_drewN z _).size
      .go_region_with (go_at_call 40;(refine aT (C3.out _ ?_) ?_;(first|exact z|exact z.drew|exact below_drewN z _);rintro e w5 ⟨rfl,ao⟩))
       all_goals
        go_wp2_with fail;go_roundg (ps.length-(i+1))
        case measure=>omega
        case rel=>
         obtain⟨q1,q2,q3,q4,q5,q6,q7⟩:=ap.out;refine⟨_,q,aA,by go_num,rfl,q3,?_,by rw[q2,q1];rfl,q4.trans ((Below.trans ?_ (ao.mono ?_)).mono q4.size)⟩
         .unfold mY at q5;simp only[dF,Z3]at q5;omega
         .first|exact z|exact z.drew|exact below_drewN z _
         .first|exact z.size|exact z.drew.size|exact(below_drewN z _).size
     .have ar:¬i<ps.length-1:=by omega
      clear hp ai af R;go_wp2_with fail;go_ret;obtain⟨hp,ai,af,R⟩:=HI.out;refine⟨?_,R⟩;rw[af,RF _ _ (by rw[bC];omega)];rfl
end
open Dv (X2 Cf Ba Ch)
section
variable {v vo:aD}{s n nb:Nat}{xs:List aD}
structure jL(XS:Nat->Prop)(w w':X):Prop where
 size:w.heap.size<=w'.heap.size
 block:∀k,k<w.heap.size->¬XS k->w'.heap[k]? =w.heap[k]?
section
variable {XS M':Nat->Prop}{w w' w'':X}
def jI.h(h:jI XS w w'):jL XS w w':=⟨h.size,h.block⟩
def jL.trans(h:jL XS w w')(z:jL M' w' w'')(I:∀k,k<w.heap.size->M' k->XS k):jL XS w w'':=
 ⟨bH h.size z.size,λk hk E=>(z.block k (aP hk h.size) (λe=>E (I k hk e))).trans (h.block k hk E)⟩
def jL.mono(h:jL XS w w')(z:∀k,k<w.heap.size->XS k->M' k):jL M' w w':=⟨h.size,λk hk E=>h.block k hk (λe=>E (z k hk e))⟩
def jL.heaps{v v':X}(h:jL XS w w')(e:v.heap=w.heap)(z:v'.heap=w'.heap):jL XS v v':=⟨by rw[e,z];exact h.size,λk hk=>by rw[e,z];rw[e]at hk;exact h.block k hk⟩
def jL.fake(h:jL XS w w'):∃v,jI XS w v/\v.heap=w'.heap:=⟨{ w' with os:=w.os,tape:=w.tape,output:=w.output },⟨rfl,rfl,rfl,h.size,h.block⟩,rfl⟩
def Row.heap{e:Nat}(h:Row w e s v n xs)(q:w'.heap=w.heap):Row w' e s v n xs:=h.kept (λg _=>by rw[q])
def Rd.heap(h:Rd w s v n xs)(q:w'.heap=w.heap):Rd w' s v n xs:=h.kept (by grind) (λ_ g _ _=>by rw[q])
def rH.heap{kb:Nat}{c:Cf}{vu:aD}{us:List PB}{dl:Nat->List (List UInt8)}{vw:aD}{ws:List PW}{cnt ep sq:Nat}(h:rH w kb c vu us dl nb vo vw ws cnt ep sq)(q:w'.heap=w.heap):rH w' kb c vu us dl nb vo vw ws cnt ep sq:=
 ⟨by rw[q];exact h.obj,h.upper.heap q,h.wait.heap q,λj p hp=>Row.heap (h.deps j p hp) q,λp hp=>Row.heap (h.txs p hp) q⟩
def ChanAt.heap{o:PC}(h:ChanAt w o)(q:w'.heap=w.heap):ChanAt w' o:=⟨by rw[q];exact h.obj,h.fine,h.small,h.lastLt,λe=>by
 have s:=h.sound e;obtain⟨B,E,z⟩:=s.map;exact⟨⟨B,E,z.of_block (by rw[q])⟩,s.size,s.room,s.ended,s.last⟩,h.spoilt⟩
def Chs.heap{nm:AL}{os:List PC}(h:Chs w nb vo nm os)(q:w'.heap=w.heap):Chs w' nb vo nm os:=⟨h.named.of_block (by rw[q]),h.order.heap q,λo z=>(h.chans o z).heap q,h.apart,h.maps,h.far,h.entries⟩
def kW.heap{u:X2}{vt vl:aD}(h:kW w u vt vl)(q:w'.heap=w.heap):kW w' u vt vl:=⟨Rd.heap h.1 q,Rd.heap h.2.1 q,h.2.2⟩
def qg(q:w'.heap=w.heap)(a:Addr):w'.cell? a=w.cell? a:=by unfold World.cell?;rw[q]
def lJ.heap(h:lJ w)(q:w'.heap=w.heap):lJ w':=⟨⟨by rw[qg q];exact h.1.1,by rw[qg q];exact h.1.2.1,by rw[qg q];exact h.1.2.2⟩,⟨by rw[qg q];exact h.2.1,by rw[qg q];exact h.2.2.1,by rw[qg q];exact h.2.2.2⟩⟩
end
end
open Go.RowKit Go.Joins Go.Shelf
open Dv (X2 Cf Ba)
def WC(w:X):(binOp .eql 26 (aM Z 0 0) (aM Z 0 0)).run PQ w=.ok (cM bB) w:=XN
def SY(w:X)(a:Addr)(n c:Nat):(binOp .eql 26 (aM (M a) n c) (aM Z 0 0)).run PQ w=.ok (cM aR) w:=XN
def OQ(v:aD)(l:List (List UInt8))(w:X)(h:kQ w v l)(hl:l.length<=4294967296):eL PQ 47 #[v] w λe w'=>∃a cap,e=bX (.slice a l.length cap)/\Made w' w.heap.size (.slice a l.length cap) l/\cG w.heap.size w w':=by
 obtain⟨rfl,ao⟩|⟨g,off,cap,aw,rfl,an,ay,av,_,_⟩:=h.2
 .obtain rfl:=bP ao;have am:=WC;go_enter (fq Tryz.func47 rfl),n9;go_wp2_with fail;go_ret;exact⟨Z,0,rfl,⟨Row.nil _ _ _,by simp[Value.ownBlock]⟩,aJ _ _⟩
 .obtain⟨i0,ak,ag,ah,ai⟩:=info_parts BP;have Hi:cJ _:=jy ak (jy ag (jy ah ai));obtain⟨W,hW,R,ho⟩:=jD w #[] 9;have Y:Row W 9 1 (aM (M ⟨w.heap.size,0,Z⟩) 0 0) 0 []:=⟨aC,cF ⟨_,0,0,_,rfl,ho,jB,by unfold maxLen;omega,aC,λj u hj=>by simp at hj⟩⟩
  have J:∀j u,(l.map nT)[j]? =M u->W.cell? ((⟨g,off,Z⟩:Addr).add j)=M u:=λj u hj=>by
   have:=(Row.below h R).cell rfl j u hj;unfold Addr.add;split
   .rename_i h0;subst h0;exact this
   .exact this
  have ac:∀u,u∈l.map nT->u.oneCell'=bB:=λu hu=>by
   obtain⟨x,_,rfl⟩:=bM.1 hu;rfl
  have ae:(l.map nT).length=l.length*1:=aC
  obtain⟨aa,E⟩:∃aa,aa=l.map nT:=⟨_,rfl⟩
  rw[<-E]at J ac ae;have H:cJ _:=jy R (jy ho (jy Y (jy J (jy ac (jy ae E)))));have am:=SY;clear R ho Y J ac ae E h ak ag ah ai an;by_cases hn:l.length=0
  .obtain⟨rfl⟩:l=[]:=bP hn;have af:aa=[]:=H.out.2.2.2.2.2.2;have au:cJ _:=af;clear af hn;go_enter (fq Tryz.func47 rfl),n9;go_upto_region 3 with fail;go_wp2_with (first|(at_builtin;rw[<-hW];refine kT _ rfl (.tmp 5) (.tmp 6) 26 rfl 9 i0 1 (uq nq) Hi.out.1 Hi.out.2.2.1 _ 0 0 0 rfl _ 0 cap [] rfl rfl (by intro j u hj;simp at hj) (by intro u hu;simp at hu) aA (by intro j hj;simp at hj) (by intro j;exact aQ H.out.2.1 j) ?_)|go_in)
   go_ret;subst hW;exact⟨_,0,rfl,⟨H.out.2.2.1,λq hq=>by have:M w.heap.size=M q:=hq;cases this;exact jB⟩,H.out.1⟩
  .go_enter (fq Tryz.func47 rfl),n9;go_upto_region 3 with fail;go_wp2_with (first|(at_builtin;rw[<-hW];refine kX _ rfl (.tmp 5) (.tmp 6) 26 rfl 9 i0 _ 1 16 (uq nq) Hi.out.1 Hi.out.2.1 Hi.out.2.2.1 Hi.out.2.2.2 rfl aB _ 0 [] rfl H.out.2.2.1 _ _ cap aa rfl aA H.out.2.2.2.2.2.1 H.out.2.2.2.1 H.out.2.2.2.2.1 (by unfold maxLen;omega) aA ?_;intro g5 ar aj w5 I z;have ap:cJ _:=jy I z;clear I z)|go_in)
   go_ret;obtain⟨I,z⟩:=ap.out;obtain⟨R,ho,Y,J,ac,ae,E⟩:=H.out;rw[fJ,dS,E]at I
   have aq:w.heap.size<=g5:=by
    obtain e|e:=z.own
    .have:M w.heap.size=M g5:=e;cases this;exact jB
    .exact bH R.size e
   refine⟨_,aj,rfl,⟨I,λq hq=>by have:M g5=M q:=hq;cases this;exact aq⟩,?_⟩;refine R.trans ⟨z.jM.os,z.jM.tape,z.jM.output,z.jM.size,λq hq=>z.jM.block q (aP hq R.size) (λe=>?_)⟩;have:M w.heap.size=M q:=e;cases this;omega
def alone(c:Cf)(us:List PB)(cnt ep:Nat):Nat:=if Ag us (ep+1)<=lW c us cnt then ep+1 else ep
def yD(kb:Nat)(c:Cf)(us:List PB)(cnt ep:Nat)(w:X)(h:Look w kb c us cnt ep)(aa:ep+1<us.length):eL PQ 88 #[aG (M ⟨kb,0,Z⟩)] w λx w'=>x=bX (N aE (alone c us cnt ep:Nat))/\∃m,w'=w.drewN m:=by
 obtain⟨vu,nb,vo,vw,sq,R,Y⟩:=h.obj;obtain⟨g,off,cap,rfl,af,hg,hx⟩:=Y.pos aA;obtain⟨p,hp⟩:∃p,us[ep+1]? =M p:=⟨_,aO aa⟩
 have k1:w.cell? ⟨g,off+(ep+1)*3+1,Z⟩=M (N aE p.2.1):=by
  have:=Rd.rec qE 3 (λ_=>rfl) Y hp (i:=1) (u:=.int _ _) aA rfl;rw[<-dV]at this;exact this
 have c7:w.cell? ⟨kb,7,Z⟩=M (aM (M ⟨g,off,Z⟩) us.length cap):=mZ R rfl;have ae:w.cell? ⟨kb,12,Z⟩=M (N aE ep):=mZ R rfl;have z:=λm=>Ej kb c us cnt ep _ (h.drewN m) aA;have ac:(ep:Int)+1<(us.length:Int):=aA
 obtain⟨t,ht⟩:∃t,lW c us cnt=t:=⟨_,rfl⟩
 obtain⟨r,E⟩:∃r,alone c us cnt ep=r:=⟨_,rfl⟩
 rw[E];unfold alone at E;rw[uT hp,ht]at E;rw[ht]at z;obtain⟨tp,J⟩:∃x,p.2.1=x:=⟨_,rfl⟩
 rw[J]at k1 E;have I:cJ _:=z;have Hr:cJ _:=E;have hl:=h.len;clear h R Y hx hp z E ht J;go_enter (fq Tryz.func88 rfl),Tryz.ntmps88;go_upto_region 1 with fail;go_quiet ((go_at_call 127;exact Calls.quiet_of (I.out _)));by_cases h1:tp<=t
 .go_wp2_with fail;go_ret;refine⟨?_,_,rfl⟩;rw[<-Hr.out,ZD h1];rfl
 .go_wp2_with fail;go_ret;refine⟨?_,_,rfl⟩;rw[<-Hr.out,Zs aA];rfl
end Hm
