import Derived.Test.YtpibpdpedjinhabGreatDoorP33
set_option maxRecDepth 100000
set_option maxHeartbeats 4000000
set_option linter.all false
open Bool renaming false->aR,true->bB
open Go renaming Calls->eL,Ending->pv,TypeId->cH,Value->aD,World->X,bodyPost_ret->cN,execOp->bO,heap_alloc_new->cY,info_parts->pu,undef->aH
open Go.Ending renaming returned->bX
open Go.Instr renaming indexAt->mU
open Go.IntKind renaming i64->aE,wrap_i64->gA
open Go.Obj renaming cells->aL
open Go.RowKit renaming Below->cG,Hid->cJ
open Go.Value renaming agg->gR,int->N,pointer->aG,slice->aM,string->bE,tuple->cP
open Option renaming none->Z,some->M
open Or renaming inl->bN,inr->cF
namespace Go.Proofs.YtpibpdpedjinhabGreatDoor
namespace Hm
open Go.RowKit Go.Joins Go.Shelf
open Fr (below_drewN)
open Dv (X2)
section
structure CI(w:X)(id time:Int)(vt vl:aD)(wx:X):Prop where
 box:wx.heap[w.heap.size]? =M (aL #[N aE id,N aE time,vt,vl] 28 (0,0))
 res:wx.heap[w.heap.size+1]? =M (aL #[N aE 0,N aE 0,aM Z 0 0,aM Z 0 0] 28 (0,0))
 b:cG w.heap.size w wx
section
variable {w wx w':X}{id time:Int}{vt vl v:aD}{E s n:Nat}{xs:List aD}
theorem CI.start(w:X)(id time:Int)(vt vl:aD):CI w id time vt vl ((w.alloc (aL #[N aE id,N aE time,vt,vl] 28)).alloc (aL #[N aE 0,N aE 0,aM Z 0 0,aM Z 0 0] 28)):=by
 refine⟨?_,?_,((aJ _ w).alloc jB _).alloc aC _⟩
 .rw[fV _ _ _ aC];exact cY _ _
 .have:=cY (w.alloc (aL #[N aE id,N aE time,vt,vl] 28)) (aL #[N aE 0,N aE 0,aM Z 0 0,aM Z 0 0] 28);simpa using this
theorem CI.jM{XS:Nat->Prop}(h:CI w id time vt vl wx)(hc:jI XS wx w')(z:∀k,XS k->w.heap.size+2<=k):CI w id time vt vl w':=by
 have l2:=(jE h.res)
 refine⟨(hc.block _ aA λe=>?_).trans h.box,(hc.block _ l2 λe=>?_).trans h.res,((jI.below h.b jB (λ_=>False)).trans hc λk hk e=>?_).lQ⟩
 .have:=z _ e;omega
 .have:=z _ e;omega
 .have:=z _ e;omega
theorem CI.set2(h:CI w id time vt vl wx)(v:aD):CI w id time v vl (wx.setCell ⟨w.heap.size,2,Z⟩ v):=by refine⟨by rw[block_setCell h.box];rfl,(aW _ _ _ _ (Nat.succ_ne_self _)).trans h.res,((jI.below h.b jB (λ_=>False)).trans (.set wx w.heap.size 2 v) λk hk e=>aA).lQ⟩
theorem CI.acQ(h:CI w id time vt vl wx)(v:aD):CI w id time vt v (wx.setCell ⟨w.heap.size,3,Z⟩ v):=by refine⟨by rw[block_setCell h.box];rfl,(aW _ _ _ _ (Nat.succ_ne_self _)).trans h.res,((jI.below h.b jB (λ_=>False)).trans (.set wx w.heap.size 3 v) λk hk e=>aA).lQ⟩
theorem Row.again{g off cap:Nat}(h:Row w E s (aM (M ⟨g,off,Z⟩) n cap) n xs){j:Nat}(z:xs[j]? =M v):Row (w.setCell ⟨g,off+j,Z⟩ v) E s (aM (M ⟨g,off,Z⟩) n cap) n xs:=by have:=h.put (j:=j) v;obtain⟨I,rfl⟩:=aN.1 z;rwa[List.set_getElem_self I]at this
theorem QU(u:X2):(∀x,x∈u.txs.flatMap oO->x.oneCell'=bB)/\∀x,x∈u.logs.map nT->x.oneCell'=bB:=by
 refine⟨λx z=>?_,λx z=>?_⟩
 .obtain⟨t,_,ht⟩:=List.mem_flatMap.1 z;simp only[oO,dD,List.not_mem_nil,or_false]at ht;rcases ht with rfl|rfl|rfl<;>rfl
 .obtain⟨t,_,rfl⟩:=bM.1 z;rfl
theorem IX(u:X2)(vt vl:aD)(w:X)(h:kW w u vt vl)(hd:∀t,t∈u.txs->t.data.length<=16777216)(hg:∀s,s∈u.logs->s.length<=16777216):eL PQ 61 #[gR #[N aE u.id,N aE u.time,vt,vl]] w λe w'=>∃a b a' b',e=bX (YS (u,.slice a u.txs.length b,.slice a' u.logs.length b'))/\Pe w' (u,.slice a u.txs.length b,.slice a' u.logs.length b')/\cG w.heap.size w w':=by
 obtain⟨ta,tc,rfl⟩:=h.1.slice;obtain⟨la,lc,rfl⟩:=Rd.slice h.2.1;obtain⟨W,hW⟩:∃W,W=(w.alloc (aL #[N aE u.id,N aE u.time,.slice ta u.txs.length tc,.slice la u.logs.length lc] 28)).alloc (aL #[N aE 0,N aE 0,aM Z 0 0,aM Z 0 0] 28):=⟨_,rfl⟩
 have hI:=CI.start w u.id u.time (.slice ta u.txs.length tc) (.slice la u.logs.length lc);rw[<-hW]at hI;have au:W.heap.size=w.heap.size+2:=by rw[hW];simp
 obtain⟨b0,b1,b2,b3⟩:=cells4 hI.box;have fb:=aQ hI.box;have hC:=X8 _ _ _ W (h.below hI.b).1 (QU u).1 h.2.2.1;have HC:cJ _:=λ(_:Unit)=>hC;have H:cJ _:=jy h (jy hd (jy hg (jy hI au)));clear h hd hg hI hC au;go_enter (fq Tryz.func61 rfl),Tryz.ntmps61;go_upto_region 1 with fail;rw[<-hW];clear hW;go_upto_region 2 with(go_at_call 91;refine aT (HC.out ()) ?_;rintro e w1 ⟨a,cap,rfl,hr,aa,ar⟩;have J:=H.out.2.2.2.1.jM (.below ar jB (λ_=>False)) (λ_ e=>e.elim);clear b0 b1 b2 b3 fb;obtain⟨b0,b1,b2,b3⟩:=cells4 J.box;have fb:=aQ J.box;have HR:cJ _:=jy hr (jy aa (jy ar J));clear hr aa ar J)
 obtain⟨V,hV⟩:∃V,V=w1.setCell ⟨w.heap.size,2,Z⟩ (.slice a u.txs.length cap):=⟨_,rfl⟩
 have R:=HR.out.2.2.2.set2 (.slice a u.txs.length cap);have ae:=HR.out.1.jM (.set w1 w.heap.size 2 (.slice a u.txs.length cap)) (λg hg e=>by have:=HR.out.2.1 g hg;have:=H.out.2.2.2.2;omega);rw[<-hV]at R ae⊢;clear hV b0 b1 b2 b3 fb;obtain⟨b0,b1,b2,b3⟩:=cells4 R.box;have H2:cJ _:=jy R ae;clear R ae;have hn:=H.out.1.2.2.1;go_upto_region 3 with fail;clear b0 b1 b2 b3;go_loopg [3,12] u.txs.length (λgg _ a3 wx=>∃i:Nat,a3=N aE i/\i<=u.txs.length/\gg=u.txs.length-i/\cJ (CI w u.id u.time (.slice a u.txs.length cap) (.slice la u.logs.length lc) wx/\Row wx 125 3 (.slice a u.txs.length cap) u.txs.length (u.txs.flatMap oO)))
 case atStart=>exact⟨0,rfl,dL _,rfl,H2.out⟩
 case round=>
  obtain⟨i,rfl,hi,rfl,HI⟩:=hrel;obtain⟨b0,b1,b2,b3⟩:=cells4 HI.out.1.box;by_cases an:i<u.txs.length
  .have ai:(i:Int)<u.txs.length:=by omega
   obtain⟨g,off,z,hv,a2⟩:=HI.out.2.pos aA;cases hv;obtain⟨t,ht⟩:∃t,u.txs[i]? =M t:=⟨_,aO an⟩
   have hx:(u.txs.flatMap oO)[i*3+2]? =M (bE ⟨t.data.toArray⟩):=flat_get oO 3 (λ_=>rfl) _ i 2 t ht aA;have k2:=HI.out.2.cell rfl _ _ hx;rw[<-dV]at k2;have fg:=HI.out.2.frozen rfl;have ag:=HI.out.2.lt (g:=g) rfl;have aq:=(jE HI.out.1.box)
   obtain⟨D,hD⟩:∃D:ByteArray,D=⟨t.data.toArray⟩:=⟨_,rfl⟩
   rw[<-hD]at k2 hx;have ap:D.size<=16777216:=by rw[hD];show t.data.toArray.size<=_;rw[dR];exact H.out.2.1 t (aX ht)
   have HX:cJ _:=hx;clear hx ht hD;go_upto_region 5 with fail;go_region_with (go_at_call 92;(refine aT (Fr.clone_any D _ ap) ?_;rintro e w5 ⟨rfl,I⟩;have k5:=(I.cell (p:=⟨g,off+i*3+2,Z⟩) ag).trans k2;have f5:w5.frozen? ⟨g,off+i*3+2,Z⟩=aR:=by { have:=I.block g ag;unfold World.frozen?;rw[this];exact fg _ };have c5:=(I.cell (p:=⟨w.heap.size,2,Z⟩) aq).trans b2;have ac:cJ _:=I;clear I))
   all_goals
    go_wp2_with fail;go_roundg (u.txs.length-(i+1))
    case measure=>omega
    case rel=>
     have hB:cG wr.heap.size wr w5:=by first|exact ac.out|exact(aJ _ _).drew.trans ac.out|exact(below_drewN (aJ _ _) _).trans ac.out
     have hs:=jI.set w5 g (off+i*3+2) (bE D);have aa:w.heap.size+2<=g:=by rw[<-H.out.2.2.2.2];exact HR.out.2.1 g rfl
     have av:=(HI.out.2.below hB).again HX.out;rw[<-dV]at av;exact⟨i+1,by go_num,aA,rfl,(HI.out.1.jM (.below hB jB (λ_=>False)) (λ_ e=>e.elim)).jM hs (λk e=>aA),av⟩
  .have ai:¬(i:Int)<u.txs.length:=by omega
   have ao:=HI.out.1;have fb:=aQ ao.box;have aw:=CB _ _ _ wr (Rd.below H.out.1.2.1 ao.b) (QU u).2 H.out.1.2.2.2;have a0:cJ _:=λ(_:Unit)=>aw;clear ao aw;go_upto_region 8 with(go_at_call 47;refine aT (a0.out ()) ?_;rintro e w3 ⟨a',z,rfl,hr,aa,aj⟩;have J:=HI.out.1.jM (.below aj jB (λ_=>False)) (λ_ e=>e.elim);clear b0 b1 b2 b3 fb;obtain⟨b0,b1,b2,b3⟩:=cells4 J.box;have fb:=aQ J.box;have ah:cJ _:=jy hr (jy aa (jy (HI.out.2.below aj) J));have a6:cJ _:=aj;clear hr aa aj J)
   obtain⟨Wd,hX⟩:∃Wd,Wd=w3.setCell ⟨w.heap.size,3,Z⟩ (.slice a' u.logs.length z):=⟨_,rfl⟩
   have R:=ah.out.2.2.2.acQ (.slice a' u.logs.length z);have l2:=(jE HI.out.1.res)
   have ae:=ah.out.1.jM (.set w3 w.heap.size 3 (.slice a' u.logs.length z)) (λg hg e=>by have:=ah.out.2.1 g hg;omega);have am:=ah.out.2.2.1.jM (.set w3 w.heap.size 3 (.slice a' u.logs.length z)) (λg hg e=>by have:=HR.out.2.1 g hg;have:=H.out.2.2.2.2;omega);rw[<-hX]at R ae am⊢;clear hX b0 b1 b2 b3 fb;obtain⟨b0,b1,b2,b3⟩:=cells4 R.box;have H3:cJ _:=jy R (jy ae am);clear R ae am;have a5:=H.out.1.2.2.2;go_upto_region 9 with fail;clear b0 b1 b2 b3;go_loopg [4,35] u.logs.length (λgg _ ay wx=>∃i:Nat,ay=N aE i/\i<=u.logs.length/\gg=u.logs.length-i/\cJ (CI w u.id u.time (.slice a u.txs.length cap) (.slice a' u.logs.length z) wx/\Row wx 9 1 (.slice a' u.logs.length z) u.logs.length (u.logs.map nT)/\Row wx 125 3 (.slice a u.txs.length cap) u.txs.length (u.txs.flatMap oO)))
   case atStart=>exact⟨0,rfl,dL _,rfl,H3.out⟩
   case round=>
    obtain⟨i,rfl,hi,rfl,Y⟩:=hrel;obtain⟨b0,b1,b2,b3⟩:=cells4 Y.out.1.box;by_cases an:i<u.logs.length
    .have ai:(i:Int)<u.logs.length:=by omega
     obtain⟨g,off,a1,hv,a2⟩:=Y.out.2.1.pos aA;cases hv;obtain⟨t,ht⟩:∃t,u.logs[i]? =M t:=⟨_,aO an⟩
     have hx:(u.logs.map nT)[i]? =M (bE ⟨t.toArray⟩):=by rw[fE,ht];rfl
     have k2:=Y.out.2.1.cell rfl _ _ hx;have fg:=Y.out.2.1.frozen rfl;have ag:=Y.out.2.1.lt (g:=g) rfl;have aq:=(jE Y.out.1.box)
     obtain⟨D,hD⟩:∃D:ByteArray,D=⟨t.toArray⟩:=⟨_,rfl⟩
     rw[<-hD]at k2 hx;have ap:D.size<=16777216:=by rw[hD];show t.toArray.size<=_;rw[dR];exact H.out.2.2.1 t (aX ht)
     have HX:cJ _:=hx;clear hx ht hD;go_upto_region 11 with fail;go_region_with (go_at_call 92;(refine aT (Fr.clone_any D _ ap) ?_;rintro e w5 ⟨rfl,I⟩;have k5:=(I.cell (p:=⟨g,off+i,Z⟩) ag).trans k2;have f5:w5.frozen? ⟨g,off+i,Z⟩=aR:=by { have:=I.block g ag;unfold World.frozen?;rw[this];exact fg _ };have c5:=(I.cell (p:=⟨w.heap.size,3,Z⟩) aq).trans b3;have ac:cJ _:=I;clear I))
     all_goals
      go_wp2_with fail;go_roundg (u.logs.length-(i+1))
      case measure=>omega
      case rel=>
       have hB:cG wr.heap.size wr w5:=by first|exact ac.out|exact(aJ _ _).drew.trans ac.out|exact(below_drewN (aJ _ _) _).trans ac.out
       have hs:=jI.set w5 g (off+i) (bE D);have aa:w.heap.size+2<=g:=by have:=ah.out.2.1 g rfl;omega
       refine⟨i+1,by go_num,aA,rfl,(Y.out.1.jM (.below hB jB (λ_=>False)) (λ_ e=>e.elim)).jM hs (λk e=>aA),(Y.out.2.1.below hB).again HX.out,(Y.out.2.2.below hB).jM hs (λg' az e=>?_)⟩;subst e;obtain⟨c1,a4⟩:=Y.out.2.1.obj (g:=g') rfl;obtain⟨c2,af⟩:=Y.out.2.2.obj az;rw[a4]at af;simp at af
    .have ai:¬(i:Int)<u.logs.length:=by omega
     obtain⟨r0,r1,r2,r3⟩:=cells4 Y.out.1.res;have fr:=aQ Y.out.1.res;go_wp2_with fail;obtain⟨q1,q2⟩:=nK Y.out.1.res (N aE u.id) (N aE u.time) (.slice a u.txs.length cap) (.slice a' u.logs.length z);have hl:=l2
     have ak:∀{E s n:Nat}{v:aD}{xs:List aD},Row wr E s v n xs->E≠28->Row (Iz wr (w.heap.size+1) (N aE u.id) (N aE u.time) (.slice a u.txs.length cap) (.slice a' u.logs.length z)) E s v n xs:=λhr ne=>hr.jM q2 λg hg e=>by
      subst e;obtain⟨c2,af⟩:=hr.obj hg;rw[Y.out.1.res]at af;simp at af;exact ne af.2.symm
     refine cN (v:=YS (u,.slice a u.txs.length cap,.slice a' u.logs.length z)) ?_ rfl ⟨a,cap,a',z,rfl,⟨ak Y.out.2.2 aB,ak Y.out.2.1 aB⟩,((jI.below Y.out.1.b jB (λ_=>False)).trans q2 λk hk e=>aA).lQ⟩;obtain⟨z0,z1,z2,z3⟩:=cells4 q1;unfold Iz at z0 z1 z2 z3;simp only[results,Tryz.results61];simp[go_sem,z0,z1,z2,z3,YS]
end
end
section
def aaI:(PQ.info? 28).map (λi=>(i.zero,i.size,i.bytes))=M (M (gR #[N aE 0,N aE 0,aM Z 0 0,aM Z 0 0]),4,64):=XN
section
variable {w w':X}{sb:Nat}{vb:aD}{ps:List PU}{last sil:Nat}
theorem ku.next(h:ku w sb vb ps last sil){n:Nat}(E:n<=1099511627776):ku (w.setCell ⟨sb,1,Z⟩ (N aE n)) sb vb ps n sil:=by have hc:=jI.set w sb 1 (N aE n);refine⟨?_,h.row.jM hc (λg z e=>h.ne (by rw[z,e])),λp hp=>(h.up p hp).ro (h.ro (hc.mono λk _ e=>bN e)),h.len,h.few,E⟩;rw[block_setCell h.obj];rfl
theorem ku.far(h:ku w sb vb ps last sil){R:Nat}{cs:Array aD}{E:Nat×Nat}(Y:w.heap[R]? =M (aL cs 28 E))(hc:jI (λk=>k=R) w w')(J:¬SO sb vb R):ku w' sb vb ps last sil/\Ro w w':=by
 have z:Ro w w':=.jM hc λk cs' t I hk e=>by
  subst hk;rw[Y]at e;simp at e;rw[<-e.2.1];exact⟨aB,aB⟩
 refine⟨h.kept (λk hk=>hc.block k ?_ λe=>J (by rw[<-e];exact hk)) z,z⟩;obtain rfl|e:=hk
 .exact h.lt
 .exact h.row.lt e
def U9(w:X)(sb:Nat)(vb:aD)(ps:List PU)(last sil:Nat)(u:X2)(v:aD)(e:pv)(w':X):Prop:=
 e=bX v/\∃z vt vl,ku w' sb z (ps++[({ u with id:=(last+1:Nat) },vt,vl)]) (last+1) sil/\jI (SO sb vb) w w'/\∀g,z.ownBlock=M g->vb.ownBlock=M g\/w.heap.size<=g
theorem DV(u:X2)(vt vl:aD)(h:ku w sb vb ps last sil)(hu:kW w u vt vl)(hd:∀t,t∈u.txs->t.data.length<=16777216)(hg:∀s,s∈u.logs->s.length<=16777216)(af:(0<u.txs.length->vt.ownBlock≠M sb)/\(0<u.logs.length->vl.ownBlock≠M sb))(hl:ps.length<60)(hi:last<1099511627776):eL PQ 37 #[aG (M ⟨sb,0,Z⟩),gR #[N aE u.id,N aE u.time,vt,vl]] w (U9 w sb vb ps last sil u (N aE (last+1:Nat))):=by
 obtain⟨L,hL⟩:∃L:Nat,L=last+1:=⟨_,rfl⟩
 unfold U9;rw[<-hL];obtain⟨ta,tc,rfl⟩:=hu.1.slice;obtain⟨la,lc,rfl⟩:=Rd.slice hu.2.1;obtain⟨W,hW,hb,hz⟩:=jD w #[N aE u.id,N aE u.time,.slice ta u.txs.length tc,.slice la u.logs.length lc] 28;have hS:=h.below hb;obtain⟨c0,c1,c2⟩:=cells3 hS.obj;have fs:=aQ hS.obj;have a4:=h.lt;have au:sb≠w.heap.size:=aA
 obtain⟨Wd,hX⟩:∃Wd,Wd=W.setCell ⟨sb,1,Z⟩ (N aE L):=⟨_,rfl⟩
 have an:=hS.next (n:=L) aA;have I:=jI.set W sb 1 (N aE L);rw[<-hX]at an I;have ar:=(I.block w.heap.size (jE hz) au.symm).trans hz;obtain⟨z0,z1,z2,z3⟩:=cells4 ar;have ai:=hu.below hb;have hC:=IX u _ _ Wd ⟨Rd.jM ai.1 I λhn g e e'=>af.1 hn (by rw[e,e']),Rd.jM ai.2.1 I λhn g e e'=>af.2 hn (by rw[e,e']),ai.2.2⟩ hd hg;have HC:cJ _:=λ(_:Unit)=>hC;have H:cJ _:=jy h (jy hb (jy ar (jy an I)));clear h hb hz hS an I ar hC hu ai hd hg af;go_enter (fq Tryz.func37 rfl),Tryz.ntmps37;go_upto_region 1 with fail;rw[<-hW];clear hW;go_upto_region 2 with fail;rw[show(last:Int)+1=L by omega,<-hX];have HL:cJ _:=hL;clear hL;clear hX c0 c1 c2 fs;go_upto_region 3 with(go_at_call 61;refine Calls.mono (HC.out ()) ?_;rintro e w2 ⟨a,b,a',b',rfl,hR,aq⟩;have z:=(aq.block w.heap.size (jE H.out.2.2.1)).trans H.out.2.2.1;have fz:=Lib.frozen_of_heap z;clear z0 z1 z2 z3;obtain⟨z0,z1,z2,z3⟩:=cells4 z;unfold YS;dsimp only;have HR:cJ _:=jy hR (jy aq z);clear hR aq z)
 obtain⟨V,hV⟩:∃V,V=Iz w2 w.heap.size (N aE u.id) (N aE u.time) (.slice a u.txs.length b) (.slice a' u.logs.length b'):=⟨_,rfl⟩
 have ao:¬SO sb vb w.heap.size:=by
  rintro(e|e)
  .omega
  .have:=H.out.1.row.lt e;omega
 obtain⟨q1,q2⟩:=nK HR.out.2.2 (N aE u.id) (N aE u.time) (.slice a u.txs.length b) (.slice a' u.logs.length b');obtain⟨ah,am⟩:=(H.out.2.2.2.1.below HR.out.2.1).far HR.out.2.2 q2 ao;rw[<-hV]at q1 q2 ah am;change Code.wp _ _ _ _ (Iz w2 w.heap.size _ _ _ _);rw[<-hV];clear z0 z1 z2 z3 fz hV;obtain⟨z0,z1,z2,z3⟩:=cells4 q1;obtain⟨c0,c1,c2⟩:=cells3 ah.obj;have fz:=aQ q1;have HV:cJ _:=jy q1 (jy q2 (jy ah (HR.out.1.ro am)));clear q1 q2 ah am;go_upto_region 4 with fail;obtain⟨Y,hY⟩:∃Y,Y=V.setCell ⟨w.heap.size,0,Z⟩ (N aE L):=⟨_,rfl⟩
 have q1:Y.heap[w.heap.size]? =M (aL #[N aE L,N aE u.time,.slice a u.txs.length b,.slice a' u.logs.length b'] 28 (0,0)):=by
  rw[hY,block_setCell HV.out.1];rfl
 have q2:=jI.set V w.heap.size 0 (N aE L);obtain⟨R,ap⟩:=HV.out.2.2.1.far HV.out.1 q2 ao;rw[<-hY]at q2 R ap⊢;clear z0 z1 z2 z3 fz c0 c1 c2 hY;obtain⟨z0,z1,z2,z3⟩:=cells4 q1;obtain⟨c0,c1,c2⟩:=cells3 R.obj;have fs:=aQ R.obj;have J:cJ _:=jy q1 (jy q2 (jy R (HV.out.2.2.2.ro ap)));clear q1 q2 R ap;obtain⟨i0,a0,av,a1,z⟩:=pu aaI;have Hi:cJ _:=jy a0 (jy av (jy a1 z));clear a0 av a1 z;have ak:cJ (∀o,Row (Y.alloc o).drew 28 4 vb ps.length (ps.flatMap oq)):=λo=>J.out.2.2.1.row.kept λg hg=>fV _ _ _ (J.out.2.2.1.row.lt hg);obtain⟨va,vc,a2⟩:=H.out.1.row.slice;subst a2;have HK:cJ (∀o,(Y.alloc o).drew.heap[sb]? =M (aL #[.slice va ps.length vc,N aE L,N aE sil] 83 (0,0))):=λo=>(fV _ _ _ J.out.2.2.1.lt).trans J.out.2.2.1.obj;have ca:∀o,(Y.alloc o).cell? ⟨sb,0,Z⟩=M (.slice va ps.length vc):=λo=>kJ (HK.out o);go_region_law ((refine pG (by rfl) (.tmp 23) (.tmp 25) 35 (by rfl) 28 i0 _ 4 64 (uq Tryz.underlying35) Hi.out.1 Hi.out.2.1 Hi.out.2.2.1 Hi.out.2.2.2 (by rfl) aB _ ps.length (ps.flatMap oq) (by rfl) (ak.out _) ⟨Y.heap.size,0,Z⟩ 1 1 [N aE L,N aE u.time,.slice a u.txs.length b,.slice a' u.logs.length b'] (by rfl) aB (by rfl) (by intro j x E;match j,E with|0,E=>(simp at E;subst E;simp[Addr.add])|1,E=>(simp at E;subst E;simp[Addr.add])|2,E=>(simp at E;subst E;simp[Addr.add])|3,E=>(simp at E;subst E;simp[Addr.add])) (by intro x hx;simp at hx;rcases hx with rfl|rfl|rfl|rfl<;>rfl) (by unfold maxLen;omega) aA ?_;intro g4 ag ae w4 ac aa;have aj:=aa.keep (ak.out _) (HK.out _) aB;have a5:=aQ aj;obtain⟨s0,s1,s2⟩:=cells3 aj;have H4:cJ _:=jy ac (jy aa aj);clear ac aa aj))
 all_goals
  have hN:=((H4.out.2.1.jM.block w.heap.size (by show _<(Y.alloc _).heap.size;simp;have:=(jE J.out.1);omega) (λe=>ao (cF e))).trans (fV _ _ _ (jE J.out.1))).trans J.out.1;have z4:=kJ ((aW w4 ⟨sb,0,Z⟩ (aM (M ⟨g4,ag,Z⟩) (ps.length+1) ae) _ au.symm).trans hN);go_wp2_with fail;go_ret;have ay:jI (SO sb (.slice va ps.length vc)) Y (w4.setCell ⟨sb,0,Z⟩ (aM (M ⟨g4,ag,Z⟩) (ps.length+1) ae)):=((((jI.alloc _ Y _).trans (.drew _ _) λ_ _ e=>e).trans H4.out.2.1.jM λk _ e=>cF e)).trans (.set w4 sb 0 _) λk _ e=>bN e;have az:=J.out.2.2.1.ro ay
  have a3:g4≠sb:=λe=>by
   obtain⟨c4,aw⟩:=H4.out.1.obj (g:=g4) rfl;rw[e,H4.out.2.2]at aw;simp at aw
  refine⟨rfl,aM (M ⟨g4,ag,Z⟩) (ps.length+1) ae,.slice a u.txs.length b,.slice a' u.logs.length b',⟨?_,?_,λp hp=>?_,aF,H.out.1.few,by have:=HL.out;omega⟩,?_,λg hg=>?_⟩
  .rw[block_setCell H4.out.2.2];rfl
  .rw[iw,aS];exact H4.out.1.kept λg hg=>by cases hg;exact aW _ _ _ _ a3
  .obtain hp|hp:=dM.1 hp
   .exact(J.out.2.2.1.up p hp).ro az
   .rw[dK.1 hp];exact J.out.2.2.2.ro az
  .refine((((((jI.below H.out.2.1 jB _).trans H.out.2.2.2.2 λk _ e=>bN e).trans (.below HR.out.2.1 jB (λ_=>False)) λ_ _ e=>e.elim).trans HV.out.2.1 λk hk e=>aA).trans J.out.2.1 λk hk e=>aA).trans ay λ_ _ e=>e)
  .cases hg;obtain e|e:=H4.out.2.1.own
   .exact bN e
   .refine cF (bH ?_ e)
    show _<=(Y.alloc _).heap.size
    have:=(jE J.out.1)
    simp;omega
theorem vg{u:X2}(h:Dv.small u=bB):(∀t,t∈u.txs->t.data.length<=16777216)/\∀s,s∈u.logs->s.length<=16777216:=by obtain⟨_,_,h3,h4⟩:=Dv.qj h;exact⟨λt ht=>bH (h3 t ht) aB,λs hs=>bH (h4 s hs) aB⟩
theorem Pm(u:X2)(vt vl:aD)(R:kW w u vt vl)(hs:Dv.small u=bB):eL PQ 19 #[gR #[N aE u.id,N aE u.time,vt,vl]] w λe w'=>∃sb vb ah af,e=bX (aG (M ⟨sb,0,Z⟩))/\ku w' sb vb [({ u with id:=1 },ah,af)] 1 0/\cG w.heap.size w w'/\∀k,SO sb vb k->w.heap.size<=k:=by
 obtain⟨ta,tc,rfl⟩:=R.1.slice;obtain⟨la,lc,rfl⟩:=Rd.slice R.2.1;obtain⟨V,hV,J,Y⟩:=jD w #[N aE u.id,N aE u.time,.slice ta u.txs.length tc,.slice la u.logs.length lc] 28;obtain⟨W,hW,I,ho⟩:=jD V #[aM Z 0 0,N aE 0,N aE 0] 83;have E:V.heap.size=w.heap.size+1:=by rw[hV];simp
 have hb:cG w.heap.size w W:=J.trans (I.mono J.size);have hS:ku W V.heap.size (aM Z 0 0) [] 0 0:=⟨ho,Row.nil _ _ _,λp hp=>by simp at hp,aC,aA,aA⟩
 have z:∀{s n:Nat}{v:aD}{xs:List aD},Rd w s v n xs->0<n->v.ownBlock≠M V.heap.size:=λhr hn e=>by
  obtain⟨g,off,cap,rfl,_,hg,_⟩:=hr.pos hn;have:g=V.heap.size:=fC e;omega
 have hC:=DV u _ _ hS (R.below hb) (vg hs).1 (vg hs).2 ⟨z R.1,z R.2.1⟩ aC aA;obtain⟨z0,z1,z2,z3⟩:=cells4 Y;have ae:w.heap.size<V.heap.size:=aA
 have HC:cJ _:=λ(_:Unit)=>hC;have H:cJ _:=jy hb E;have Y:=(I.block w.heap.size ae).trans Y;clear z0 z1 z2 z3;obtain⟨z0,z1,z2,z3⟩:=cells4 Y;clear J I ho hb hS z hC Y R hs;rw[E]at HC;go_enter (fq Tryz.func19 rfl),Tryz.ntmps19;go_upto_region 2 with fail;rw[<-hV,<-hW];clear hV hW E;go_wp2_with (go_at_call 37;refine aT (HC.out ()) ?_;rintro e w1 ⟨rfl,ag,vt,vl,aa,hc,ac⟩;have HR:cJ _:=jy aa (jy hc ac);clear aa hc ac)
 go_ret;refine⟨w.heap.size+1,ag,vt,vl,rfl,HR.out.1,((jI.below H.out.1 jB (λ_=>False)).trans HR.out.2.1 λk hk e=>?_).lQ,λk hk=>?_⟩
 .obtain rfl|e:=e
  .omega
  .cases e
 .obtain rfl|e:=hk
  .omega
  .obtain e|e:=HR.out.2.2 k e
   .cases e
   .exact bH H.out.1.size e
theorem GI(u:X)(g off n cap m:Nat)(x:Int)(z:m<n)(e:x=m):(mU 35 (aM (M ⟨g,off,Z⟩) n cap) (N aE x)).run PQ u=.ok (aG (M ⟨g,off+m*4,Z⟩)) u:=by subst e;simp[mU,go_sem,(szq Tryz.sizeOf28),z]
def wF(w:X)(sb:Nat)(vb:aD)(ps:List PU)(last sil:Nat)(t:Int)(u:X2)(e:pv)(w':X):Prop:=
 if 60<=ps.length then e=bX (cP #[N aE 0,N aE 5])/\cG w.heap.size w w'
 else if mY t u=bB then U9 w sb vb ps last sil u (cP #[N aE (last+1:Nat),N aE 0]) e w'
 else e=bX (cP #[N aE 0,N aE 2])/\cG w.heap.size w w'
theorem ET(u:X2)(vt vl:aD)(h:ku w sb vb ps last sil)(hu:kW w u vt vl)(J:(0<u.txs.length->vt.ownBlock≠M sb)/\(0<u.logs.length->vl.ownBlock≠M sb))(hi:last<1099511627776){p:PU}(hp:ps[ps.length-1]? =M p)(ht:0<=p.1.time/\p.1.time<=4294967296):eL PQ 24 #[aG (M ⟨sb,0,Z⟩),gR #[N aE u.id,N aE u.time,vt,vl]] w (wF w sb vb ps last sil p.1.time u):=by
 obtain⟨ta,tc,rfl⟩:=hu.1.slice;obtain⟨la,lc,rfl⟩:=Rd.slice hu.2.1;obtain⟨W,hW,hb,hz⟩:=jD w #[N aE u.id,N aE u.time,.slice ta u.txs.length tc,.slice la u.logs.length lc] 28;have hS:=h.below hb;have ao:=h.lt;have hn:ps.length-1<ps.length:=(aN.1 hp).1;obtain⟨g,off,cap,rfl,aq⟩:=h.row.pos aA;obtain⟨c0,c1,c2⟩:=cells3 hS.obj;obtain⟨z0,z1,z2,z3⟩:=cells4 hz;have am:=h.len;by_cases af:60<=ps.length
 .have ag:(60:Int)<=ps.length:=by omega
  have Hb:cJ _:=hb;clear h hb hS hz hu J hp ht;unfold wF;simp only[ZD af];go_enter (fq Tryz.func24 rfl),Tryz.ntmps24;go_upto_region 1 with fail;rw[<-hW];clear hW;go_wp2_with fail;exact cN (v:=cP #[N aE 0,N aE 5]) (by simp[results,Tryz.results24,go_sem]) rfl ⟨rfl,Hb.out⟩
 .have ag:¬(60:Int)<=ps.length:=by omega
  unfold wF;simp only[Zs af];have k1:=Rd.rec oq 4 (λ_=>rfl) hS.row.rd hp (i:=1) (u:=N aE p.1.time) aA rfl;rw[<-dV]at k1;obtain⟨m,hm⟩:∃m,m=ps.length-1:=⟨_,rfl⟩
  have aa:(ps.length:Int)-1=m:=aA
  have ae:IntKind.i64.wrap ((ps.length:Int)-1)=m:=by rw[aa,gA];omega
  rw[<-hm]at k1;have ap:(m:Int)<ps.length:=aA
  have hN:=λW' (hw:cG W.heap.size W W')=>next_any p.1.time u _ _ W' ((hu.below hb).below hw) ht;unfold Ku at hN;obtain⟨t,ac⟩:∃t,p.1.time=t:=⟨_,rfl⟩
  rw[ac]at k1 hN⊢;have ar:∀u,(mU 35 (aM (M ⟨g,off,Z⟩) ps.length cap) (N aE ((ps.length:Int)-1))).run PQ u=.ok (aG (M ⟨g,off+m*4,Z⟩)) u:=λu=>GI u _ _ _ _ m _ aA aa;have an:∀u,(mU 35 (aM (M ⟨g,off,Z⟩) ps.length cap) (N aE (IntKind.i64.wrap ((ps.length:Int)-1)))).run PQ u=.ok (aG (M ⟨g,off+m*4,Z⟩)) u:=λu=>GI u _ _ _ _ m _ aA ae;clear aa ae;have I:=aJ W.heap.size W;have ak:=hS.lt;have ai:=hS.row.lt (g:=g) rfl;have z:=(jE hz)
  have H:cJ _:=jy h (jy hb (jy hu J));have HN:cJ _:=hN;clear h hb hS hz hu J hp ht hN ac hm;obtain⟨q,hq⟩:∃q,mY t u=q:=⟨_,rfl⟩
  rw[hq]at HN⊢;have HQ:cJ _:=hq;clear hq;go_enter (fq Tryz.func24 rfl),Tryz.ntmps24;go_upto_region 1 with fail;rw[<-hW];clear hW;go_upto_region 3 with fail;go_cut [27] (λv wx=>v=.bool (!q)/\cJ (cG W.heap.size W wx))
  case first=>
   go_region_with (go_at_call 40;(refine aT (HN.out _ ?_) ?_;(first|exact I|exact I.drew|exact below_drewN I _);rintro e w5 ⟨rfl,E⟩;have a0:=(E.cell (p:=⟨sb,0,Z⟩) ak).trans c0;have a1:=(E.cell (p:=⟨g,off+m*4+1,Z⟩) ai).trans k1;have a2:=(E.cell (p:=⟨w.heap.size,0,Z⟩) z).trans z0;have a3:=(E.cell (p:=⟨w.heap.size,1,Z⟩) z).trans z1;have a4:=(E.cell (p:=⟨w.heap.size,2,Z⟩) z).trans z2;have a5:=(E.cell (p:=⟨w.heap.size,3,Z⟩) z).trans z3;have Y:cJ _:=E;clear E))
   all_goals
    go_wp2_with fail;go_meet;refine⟨rfl,?_⟩
    first|exact Y.out|exact I.drew.trans Y.out|exact(below_drewN I _).trans Y.out
  case rest=>
   obtain⟨rfl,Hc⟩:=hcut;cases q
   .go_wp2_with fail;exact cN (v:=cP #[N aE 0,N aE 2]) (by simp[results,Tryz.results24,go_sem]) rfl ⟨rfl,H.out.2.1.trans (Hc.out.mono H.out.2.1.size)⟩
   .have R:cG w.heap.size w wc:=H.out.2.1.trans (Hc.out.mono H.out.2.1.size)
    have hs:Dv.small u=bB:=by
     have:=HQ.out;unfold mY at this;simp only[dF]at this;exact this.2
    have hL:=DV u _ _ (H.out.1.below R) (H.out.2.2.1.below R) (vg hs).1 (vg hs).2 H.out.2.2.2 aA hi;have HL:cJ _:=λ(_:Unit)=>hL;have y0:=(Hc.out.cell (p:=⟨w.heap.size,0,Z⟩) z).trans z0;have y1:=(Hc.out.cell (p:=⟨w.heap.size,1,Z⟩) z).trans z1;have y2:=(Hc.out.cell (p:=⟨w.heap.size,2,Z⟩) z).trans z2;have y3:=(Hc.out.cell (p:=⟨w.heap.size,3,Z⟩) z).trans z3;have HB:cJ _:=R;clear hL hs R;go_wp2_with (go_at_call 37;refine aT (HL.out ()) ?_;rintro e w6 ⟨rfl,hR⟩;have HR:cJ _:=hR;clear hR)
    obtain⟨ah,vt,vl,r1,r2,r3⟩:=HR.out;refine cN (v:=cP #[N aE (last+1:Nat),N aE 0]) (by simp[results,Tryz.results24,go_sem]) rfl ⟨rfl,ah,vt,vl,r1,(jI.below HB.out jB _).trans r2 λ_ _ e=>e,λg' aj=>?_⟩;exact(r3 g' aj).imp id (bH HB.out.size)
end
end
open Dv (Lo X2 Cf)
section
variable {k last sil sb:Nat}{vb:aD}{ps:List PU}{e:pv}
structure Nd where
 nk:Nat
 sb:Nat
 vb:aD
 ps:List PU
 last:Nat
 sil:Nat
 v:Vw
 rs:Bool
structure lX(w:X)(c:Cf)(x:Nd):Prop where
 obj:w.heap[x.nk]? =M (aL (lI c x.sb x.v.vb x.rs) 60 (0,0))
 src:ku w x.sb x.vb x.ps x.last x.sil
 vw:lF w x.v
def NO(x:Nd)(k:Nat):Prop:=k=x.nk\/SO x.sb x.vb k\/VO x.v k
section
variable {w w':X}{c:Cf}{x:Nd}
theorem lX.types(h:lX w c x){cs:Array aD}{t:cH}{z:Nat×Nat}(hk:NO x k)(hc:w.heap[k]? =M (aL cs t z)):t≠125/\t≠9:=by
 obtain rfl|e|e:=hk
 .rw[h.obj]at hc;simp at hc;rw[<-hc.2.1];exact⟨aB,aB⟩
 .rcases h.src.types e hc with rfl|rfl<;>exact⟨aB,aB⟩
 .rcases h.vw.types e hc with rfl|rfl|rfl<;>exact⟨aB,aB⟩
theorem lX.lt(h:lX w c x)(hk:NO x k):k<w.heap.size:=by
 obtain rfl|(rfl|e)|e:=hk
 .exact(jE h.obj)
 .exact h.src.lt
 .exact h.src.row.lt e
 .exact h.vw.lt e
theorem lX.kept(h:lX w c x)(hk:∀k,NO x k->w'.heap[k]? =w.heap[k]?)(z:Ro w w'):lX w' c x:=
 ⟨(hk _ (bN rfl)).trans h.obj,h.src.kept (λk e=>hk k (cF (bN e))) z,h.vw.kept (λk e=>hk k (cF (cF e))) z⟩
theorem lX.below(h:lX w c x)(z:cG w.heap.size w w'):lX w' c x:=h.kept (λk hk=>z.block k (h.lt hk)) λg _ _ _ hc _=>z.block g (jE hc)
theorem lX.far(h:lX w c x):¬SO x.sb x.vb x.nk/\¬VO x.v x.nk/\∀k,SO x.sb x.vb k->¬VO x.v k:=by
 have E:=h.obj;refine⟨λe=>?_,λe=>?_,λk e I=>?_⟩
 .rcases h.src.types e E with q|q<;>exact Xs q aB
 .rcases h.vw.types e E with q|q|q<;>exact Xs q aB
 .obtain⟨cs,t,z,hc⟩:∃cs t z,w.heap[k]? =M (aL cs t z):=by
   obtain rfl|e:=e
   .exact⟨_,_,_,h.src.obj⟩
   .obtain⟨c,hc⟩:=h.src.row.obj e;exact⟨_,_,_,hc⟩
  rcases h.src.types e hc with rfl|rfl<;>rcases h.vw.types I hc with q|q|q<;>exact Xs q aB
theorem lX.cells(h:lX w c x):w.cell? ⟨x.nk,7,Z⟩=M (aG (M ⟨x.sb,0,Z⟩))/\w.cell? ⟨x.nk,8,Z⟩=M (aG (M ⟨x.v.vb,0,Z⟩))/\w.cell? ⟨x.nk,9,Z⟩=M (.bool x.rs):=
 ⟨by rw[aI h.obj];rfl,by rw[aI h.obj];rfl,by rw[aI h.obj];rfl⟩
theorem lX.afh(h:lX w c x)(hs:ku w' x.sb vb ps last sil)(hc:jI (SO x.sb x.vb) w w'):lX w' c { x with vb:=vb,ps:=ps,last:=last,sil:=sil }:=by have E:=h.src.ro hc;have z:=h.far;exact⟨(hc.block _ (jE h.obj) z.1).trans h.obj,hs,h.vw.kept (λk hk=>hc.block k (h.vw.lt hk) λe=>z.2.2 k e hk) E⟩
theorem FM(n:Nat)(h:lX w c x)(J:n<=20):eL PQ 10 #[aG (M ⟨x.nk,0,Z⟩),N aE n] w λe w'=>e=bX (N aE 0)/\lX w' c { x with sil:=n }/\jI (NO x) w w':=by
 obtain⟨Y,-,-⟩:=h.cells;have E:=JB n h.src;rw[show(λ(e:pv)(w':X)=>if (n:Int)<0\/20<(n:Int)then e=bX (N aE 3)/\w'=w else e=bX (N aE 0)/\w'=w.setCell ⟨x.sb,2,Z⟩ (N aE n))=λe w'=>e=bX (N aE 0)/\w'=w.setCell ⟨x.sb,2,Z⟩ (N aE n) from by funext e w';rw[Zs aA]]at E;have R:cJ _:=λ(_:Unit)=>E;have H:cJ _:=h;clear h E;go_enter (fq Tryz.func10 rfl),Tryz.ntmps10;go_wp2_with (go_at_call 26;refine aT (R.out ()) ?_;rintro e w1 ⟨rfl,z⟩;have I:cJ _:=z;clear z)
 go_ret;have z:=I.out;subst z;have hc:jI (SO x.sb x.vb) w (w.setCell ⟨x.sb,2,Z⟩ (N aE n)):=(jI.set w x.sb 2 (N aE n)).mono λk _ e=>bN e;exact⟨rfl,H.out.afh (H.out.src.silent J) hc,hc.mono λk _ e=>cF (bN e)⟩
theorem wO(h:lX w c x):eL PQ 11 #[aG (M ⟨x.nk,0,Z⟩)] w λe w'=>e=bX (cP #[])/\lX w' c { x with rs:=bB }/\jI (NO x) w w':=by obtain⟨-,-,J⟩:=h.cells;have I:=aQ h.obj;have H:cJ _:=h;clear h;go_enter (fq Tryz.func11 rfl),Tryz.ntmps11;go_wp2_with fail;go_end0;have h:=H.out;have hc:=jI.set w x.nk 9 (.bool bB);have z:=h.far;have E:Ro w (w.setCell ⟨x.nk,9,Z⟩ (.bool bB)):=.jM hc λk cs t I hk e=>h.types (bN hk) e;refine⟨rfl,⟨?_,h.src.kept (λk hk=>hc.block k (h.lt (cF (bN hk))) λe=>z.1 (by rw[<-e];exact hk)) E,h.vw.kept (λk hk=>hc.block k (h.lt (cF (cF hk))) λe=>z.2.1 (by rw[<-e];exact hk)) E⟩,hc.mono λk _ e=>bN e⟩;rw[block_setCell h.obj];rfl
theorem wF.shape{t:Int}{u:X2}(h:wF w sb vb ps last sil t u e w'):∃i k:Int,e=bX (cP #[N aE i,N aE k]):=by
 unfold wF at h;split at h
 .exact⟨_,_,h.1⟩
 .split at h
  .exact⟨_,_,h.1⟩
  .exact⟨_,_,h.1⟩
theorem wF.from{W:X}{t:Int}{u:X2}(z:cG w.heap.size w W)(h:wF W sb vb ps last sil t u e w'):wF w sb vb ps last sil t u e w':=by
 unfold wF U9 at h⊢;split at h
 .rename_i J;rw[ZD J];exact⟨h.1,z.trans (h.2.mono z.size)⟩
 .rename_i J;rw[Zs J];split at h
  .rename_i I;rw[ZD I];obtain⟨R,E,vt,vl,h2,h3,h4⟩:=h;exact⟨R,E,vt,vl,h2,(jI.below z jB _).trans h3 λ_ _ e=>e,λg Y=>(h4 g Y).imp id (bH z.size)⟩
  .rename_i I;rw[Zs I];exact⟨h.1,z.trans (h.2.mono z.size)⟩
theorem Lc(u:X2)(vt vl:aD)(h:lX w c x)(J:kW w u vt vl)(E:(0<u.txs.length->vt.ownBlock≠M x.sb)/\(0<u.logs.length->vl.ownBlock≠M x.sb))(hi:x.last<1099511627776){p:PU}(hp:x.ps[x.ps.length-1]? =M p)(ht:0<=p.1.time/\p.1.time<=4294967296):eL PQ 8 #[aG (M ⟨x.nk,0,Z⟩),gR #[N aE u.id,N aE u.time,vt,vl]] w (wF w x.sb x.vb x.ps x.last x.sil p.1.time u):=by
 obtain⟨ta,tc,rfl⟩:=J.1.slice;obtain⟨la,lc,rfl⟩:=Rd.slice J.2.1;obtain⟨W,Y,I,hz⟩:=jD w #[N aE u.id,N aE u.time,.slice ta u.txs.length tc,.slice la u.logs.length lc] 28;obtain⟨z0,z1,z2,z3⟩:=cells4 hz;obtain⟨k7,-,-⟩:=(h.below I).cells;have hE:=λW' (hw:cG W.heap.size W W')=>ET u _ _ ((h.below I).below hw).src ((J.below I).below hw) E hi hp ht;have HE:cJ _:=hE;have Hb:cJ _:=I;have z:=aJ W.heap.size W;clear h I hz hE J E hp;go_enter (fq Tryz.func8 rfl),Tryz.ntmps8;go_upto_region 1 with fail;rw[<-Y];clear Y;go_region_with (go_at_call 24;(refine aT (HE.out _ ?_) ?_;(first|exact z|exact z.drew|exact below_drewN z _);intro e w5 R;obtain⟨i,k,rfl⟩:=R.shape;have HA:cJ _:=R;clear R))
 all_goals
  go_wp2_with fail;refine cN (v:=cP #[N aE i,N aE k]) (by simp[results,Tryz.results8,go_sem]) rfl ?_;refine wF.from (Hb.out.trans (Below.mono ?_ Hb.out.size)) HA.out
  first|exact z|exact z.drew|exact below_drewN z _
theorem Y4(h:lX w c x)(Y:0<x.v.log.length)(hs:∀p,p∈x.v.log->p.1.txs.length<=4294967296/\p.1.deps.length<=4294967296):eL PQ 14 #[aG (M ⟨x.nk,0,Z⟩)] w λe w'=>∃z,e=bX z/\∃E,LI2 w z (x.v.log.map Prod.fst) E w':=by
 obtain⟨-,k8,-⟩:=h.cells;obtain⟨-,-,c2,-⟩:=cells4 h.vw.obj;have hC:=P7 _ _ w ⟨h.vw.log.rd,λp hp=>h.vw.lor p (List.mem_append_left _ hp)⟩ (by have:=h.vw.few;omega) Y hs;have R:cJ _:=λ(_:Unit)=>hC;clear h hC hs;go_enter (fq Tryz.func14 rfl),Tryz.ntmps14;go_wp2_with (go_at_call 28;refine aT (R.out ()) ?_;rintro e w1 ⟨z,E,rfl,I⟩;have J:cJ _:=I;clear I)
 go_ret;exact⟨z,rfl,E,J.out⟩
end
end
section
variable {K:Act->X->Prop}{w:X}
noncomputable def VP:Code:=match Tryz.f22.body with
 |some (.seq c _)=>c
 |_=>.ret
noncomputable def Vg:Code:=match Tryz.f22.body with
 |some (.seq _ (.seq c _))=>c
 |_=>.ret
noncomputable def O9:Code:=match Tryz.f22.body with
 |some (.seq _ (.seq _ (.seq c _)))=>c
 |_=>.ret
noncomputable def Ui:Code:=match Tryz.f22.body with
 |some (.seq _ (.seq _ (.seq _ c)))=>c
 |_=>.ret
theorem abk:Tryz.f22.body=M (.seq VP (.seq Vg (.seq O9 Ui))):=XN
structure VS(a:Act)(vb b3:Nat):Prop where
 sz:a.tmps.size=34
 df:a.defers=[]
 t0:a.tmps[0]? =M (aG (M ⟨vb,0,Z⟩))
 t3:a.tmps[3]? =M (aG (M ⟨b3,0,Z⟩))
theorem VG:(PQ.info? 3).map (λi=>(i.zero,i.size,i.bytes))=M (M (N aE 0),1,8):=XN
theorem afV(v:Vw)(u:X2)(vu b3 x1 x2 x3:aD){bb:Nat}(h:lF w v)(hb:w.heap[bb]? =M (aL #[N aE u.id,x1,x2,x3] 28 (0,0)))(hl:v.seen.length<=60)(hx:b3=aG (M ⟨bb,0,Z⟩))(hQ:∀a' w' vs,VS a' v.vb bb->lF w' { v with vs:=vs,seen:=v.seen++[u.id] }->jI (λk=>k=v.vb\/v.vs.ownBlock=M k) w w'->(∀g,vs.ownBlock=M g->v.vs.ownBlock=M g\/w.heap.size<=g)->K a' w'):Vg.wp PQ (Exit.then K λ_ _ _=>False) { tmps:=#[aG (M ⟨v.vb,0,Z⟩),vu,aH,b3,aH,aH,aH,aH,aH,aH,aH,aH,aH,aH,aH,aH,aH,aH,aH,aH,aH,aH,aH,aH,aH,aH,aH,aH,aH,aH,aH,aH,aH,aH],defers:=[] } w:=by
 subst hx;obtain⟨va,E,z⟩:=h.seen.slice;obtain⟨c0,-,-,-⟩:=cells4 h.obj;have fz:=aQ h.obj;have z0:=kJ hb;rw[z]at c0;obtain⟨i0,ag,af,ah,ai⟩:=pu VG;have Hi:cJ _:=jy ag (jy af (jy ah ai));have Y:Row w 3 1 (.slice va v.seen.length E) v.seen.length (v.seen.map λi=>N aE i):=by rw[<-z];exact h.seen
 have ae:cJ (∀o,Row (w.alloc o).drew 3 1 (.slice va v.seen.length E) v.seen.length (v.seen.map λi=>N aE i)):=λo=>Y.kept λg hg=>fV _ _ _ (Y.lt hg);have HK:cJ (∀o,(w.alloc o).drew.heap[v.vb]? =M (aL #[.slice va v.seen.length E,aG (M ⟨v.kb,0,Z⟩),v.vl,v.vc] 73 (0,0))):=λo=>(fV _ _ _ (jE h.obj)).trans (by rw[h.obj,Vw.cells,z]);have ca:∀o,(w.alloc o).cell? ⟨v.vb,0,Z⟩=M (.slice va v.seen.length E):=λo=>kJ (HK.out o);have H:cJ _:=jy h (jy hb (jy z hQ));clear h hb z ag af ah ai Y hQ;simp only[Vg,Tryz.f22];go_region_law ((refine pG (by rfl) (.tmp 8) (.tmp 11) 70 (by rfl) 3 i0 _ 1 8 (uq Tryz.underlying70) Hi.out.1 Hi.out.2.1 Hi.out.2.2.1 Hi.out.2.2.2 (by rfl) aB _ v.seen.length _ (by rfl) (ae.out _) ⟨w.heap.size,0,Z⟩ 1 1 [N aE u.id] (by rfl) aB (by rfl) (by intro j x hj;match j,hj with|0,hj=>(simp at hj;subst hj;simp[Addr.add])) (by intro x hx;simp at hx;subst hx;rfl) (by unfold maxLen;omega) aA ?_;intro g4 R J w4 I aa;have ac:=aa.keep (ae.out _) (HK.out _) aB;have an:=aQ ac;have s0:=kJ ac;have H4:cJ _:=jy I (jy aa ac);clear I aa ac))
 all_goals
  obtain⟨h,hb,z,hQ⟩:=H.out;have hc:jI (λk=>k=v.vb\/v.vs.ownBlock=M k) w (w4.setCell ⟨v.vb,0,Z⟩ (aM (M ⟨g4,R,Z⟩) (v.seen.length+1) J)):=(((jI.alloc _ w _).trans (.drew _ _) λ_ _ e=>e).trans H4.out.2.1.jM λk _ e=>cF (by rw[z];exact e)).trans (.set w4 v.vb 0 _) λk _ e=>bN e;have hr:=h.ro (hc.mono λk _ e=>e.elim (λe=>bN (bN e)) cF)
  have am:g4≠v.vb:=λe=>by
   obtain⟨c4,aj⟩:=H4.out.1.obj (g:=g4) rfl;rw[e,H4.out.2.2]at aj;simp at aj
  have key:∀{x:aD}{m:Nat}{ys:List aD},Row w 52 8 x m ys->x.ownBlock≠M v.vb->Row (w4.setCell ⟨v.vb,0,Z⟩ (aM (M ⟨g4,R,Z⟩) (v.seen.length+1) J)) 52 8 x m ys:=λhx ak=>hx.jM hc λg hg e=>by
   obtain rfl|e:=e
   .exact ak hg
   .obtain⟨c1,q1⟩:=hx.obj hg;obtain⟨c2,q2⟩:=h.seen.obj e;rw[q1]at q2;simp at q2
  refine hQ _ _ (aM (M ⟨g4,R,Z⟩) (v.seen.length+1) J) ⟨rfl,rfl,rfl,rfl⟩ ⟨?_,?_,key h.log h.apart.2.1,key h.com h.apart.2.2,λp hp=>(h.lor p hp).ro hr,h.ne,h.few⟩ hc λg hg=>?_
  .rw[block_setCell H4.out.2.2];rfl
  .rw[bJ,aS];exact H4.out.1.kept λg hg=>by cases hg;exact aW _ _ _ _ am
  .cases hg;obtain e|e:=H4.out.2.1.own
   .exact bN (by rw[z];exact e)
   .refine cF (bH ?_ e)
    show _<=(w.alloc _).heap.size
    simp
theorem afl{u1 u2 u3 u4 u5 u6 u7 u8 u9 ae ac a4 ay av ar an aj ao a1 af ag au aq a3 ah az aa am ai ak a2 aw ap:aD}(vb kb:Nat)(vs vl:aD)(Y:Option Addr)(J z:Nat)(R:Option Addr->Nat->Nat->X->Prop)(hk:w.heap[vb]? =M (aL #[vs,aG (M ⟨kb,0,Z⟩),vl,.slice Y J z] 73 (0,0)))(hc:∀W,cG w.heap.size w W->W.heap[w.heap.size]? =M (aL #[aG (M ⟨kb,0,Z⟩)] 71 (0,0))->eL PQ 32 #[.slice Y J z,.func (.func 54) #[] #[aG (M ⟨w.heap.size,0,Z⟩)]] W (λe W'=>∃a n cap,e=bX (.slice a n cap)/\R a n cap W'))(hR:∀a n cap W',R a n cap W'->W'.heap[vb]? =M (aL #[vs,aG (M ⟨kb,0,Z⟩),vl,.slice Y J z] 73 (0,0)))(hQ:∀a' a n cap W',a'.tmps.size=34->a'.defers=[]->R a n cap W'->K a' (W'.setCell ⟨vb,3,Z⟩ (.slice a n cap))):Ui.wp PQ (Exit.then K λ_ _ _=>False) { tmps:=#[aG (M ⟨vb,0,Z⟩),u1,u2,u3,u4,u5,u6,u7,u8,u9,ae,ac,a4,ay,av,ar,an,aj,ao,a1,af,ag,au,aq,a3,ah,az,aa,am,ai,ak,a2,aw,ap],defers:=[] } w:=by
 obtain⟨-,c1,-,c3⟩:=cells4 hk;have a6:∀o,(w.alloc o).cell? ⟨vb,1,Z⟩=M (aG (M ⟨kb,0,Z⟩)):=λo=>(cells4 ((fV w o _ (jE hk)).trans hk)).2.1;have a5:∀o,(w.alloc o).cell? ⟨vb,3,Z⟩=M (.slice Y J z):=λo=>(cells4 ((fV w o _ (jE hk)).trans hk)).2.2.2;have HC:cJ _:=hc;have HR:cJ _:=hR;have HQ:cJ _:=hQ;clear hc hR hQ hk;have I:=aJ w.heap.size w;simp only[Ui,Tryz.f22];go_region_with (first|(go_at_call 33;(refine aT (Bh kb _) ?_;rintro e5 w5 ⟨rfl,rfl⟩))|(go_at_call 32;(refine aT (HC.out _ ?_ ?_) ?_;(first|exact(I.alloc jB _).drew|exact I.drew.alloc jB _);(exact cY w _);rintro e6 w6 ⟨a,n,cap,rfl,h6⟩;have E:=HR.out _ _ _ _ h6;have f6:=aQ E;obtain⟨d0,d1,d2,d3⟩:=cells4 E;have H6:cJ _:=h6;clear h6 E)))
 all_goals exact HQ.out _ _ _ _ _ rfl rfl H6.out
end
end Hm
namespace Pa
open Go Go.Conc Go.RowKit Go.Joins
open Hm (ptr kD jF jP TS jL kW oz AL PC PB PW PU lives Fits jJ kQ VP Vg O9 Ui VS Vw lF)
open Dv (X2 Cf Ch)
open Po hiding X2 H B IT PR NB
open Cr (Fill)
section
noncomputable def opsV:Array Oper:=match O9 with
 |.region _ ops _=>ops
 |_=>#[]
def aaM:∃z,O9=.region z opsV bB:=⟨_,rfl⟩
def TkR(kb nb:Nat)(c:Cf)(vu:aD)(us:List PB)(dl:Nat->List (List UInt8))(vo vw:aD)(ws:List PW)(nm:AL)(os:List PC)(cnt ep sq:Nat)(u:X2)(w w':X):Prop:=
 ∃Y v3 R J I E z,TS w' kb nb c Y (us++[(u.id,u.time,v3)]) (Nz dl us.length u) R J (ws++I) E z cnt ep sq/\jL (Tk kb nb vu vo vw os) w w'/\(∀j,Tk kb nb Y R J z j->Tk kb nb vu vo vw os j\/w.heap.size<=j)/\z.length<=os.length+4440/\Fits c.most (lives E z)/\(lives E z,(ws++I).map Prod.fst)=Dv.take c u us.length (lives nm os) (ws.map Prod.fst)
def vsV(vb kb:Nat)(u:X2)(vt vl:aD)(i:Nat):aD:=(#[ptr vb,ptr vb,aG (M ⟨vb,1,Z⟩),ptr kb,gR #[N aE u.id,N aE u.time,vt,vl],cP #[]]:Array aD).getD i aH
section
variable {Post:vU}{D:Nat->Prop}{w:X}{b:Frame}{a:Act}{k:List Item}{XX A:List Frame}
variable {kb nb:Nat}{c:Cf}{vu vo vw:aD}{us:List PB}{dl:Nat->List (List UInt8)}{ws:List PW}{nm:AL}{os:List PC}{cnt ep sq:Nat}{u:X2}{ta la:Option Addr}{tn tc ln lc vb b3:Nat}{x0 x2 x3:aD}
theorem ac4:Cr.fills 34 opsV=bB:=XN
theorem afo(rd:Cr.ReadW)(hA:VS a vb b3)(hv:w.heap[vb]? =M (aL #[x0,aG (M ⟨kb,0,Z⟩),x2,x3] 73 (0,0)))(h3:w.heap[b3]? =M (aL #[N aE u.id,N aE u.time,.slice ta tn tc,.slice la ln lc] 28 (0,0)))(ag:Tryz.prog.globals.size<=w.heap.size)(hS:TS w kb nb c vu us dl vo vw ws nm os cnt ep sq)(ap:kW w u (.slice ta tn tc) (.slice la ln lc))(an:∀g,(0<u.txs.length/\(aM ta tn tc).ownBlock=M g)\/(0<u.logs.length/\(aM la ln lc).ownBlock=M g)->g<w.heap.size/\¬Tk kb nb vu vo vw os g)(Y:Dv.small u=bB)(hcf:Dv.jK c=bB)(aq:us.length<=60)(aj:os.length<=1000000)(ae:Fits c.most (lives nm os))(aa:ws.length+4096*(lives nm os).length<=2000000000)(hQ:∀a' w' D',VS a' vb b3->TkR kb nb c vu us dl vo vw ws nm os cnt ep sq u w w'->Wq D' Post XX (b.at a' k) A w'):Wq D Post XX (b.at a (.code O9::k)) A w:=by
 obtain⟨av,ac⟩:=aaM;rw[ac];refine Wq.fill (τ:=Unit) (λ_=>vsV vb kb u (.slice ta tn tc) (.slice la ln lc)) (λl v D1 _=>(l.getD 5 aR=aR->v=w/\D1=D)/\(l.getD 5 aR=bB->TkR kb nb c vu us dl vo vw ws nm os cnt ep sq u w v)) (by rw[hA.sz];exact ac4) (λl a' v D1 _ hl hF hJ=>?_) (λl a' v D1 _ i o rest R hi ar hF hJ J=>?_) () ⟨λ_=>⟨rfl,rfl⟩,λh=>by rw[show opsV.size=6 from rfl]at h;cases h⟩
 .exact hQ a' _ _ ⟨hF.size.trans hA.sz,hF.defers.trans hA.df,(hF.slot XN).trans hA.t0,(hF.slot XN).trans hA.t3⟩ (hJ.2 (hl 5 aB))
 .have hold:∀{j:Nat}{cs:Array aD}{t:Nat}{fz:Nat×Nat},w.heap[j]? =M (aL cs t fz)->t≠100->t≠102->t≠118->t≠136->t≠140->v.heap[j]? =M (aL cs t fz):=λhj t1 t2 t3 t4 t5=>by
   cases h5:l.getD 5 aR with
   |false=>grind
   |true=>
    obtain⟨_,_,_,_,_,_,_,_,hc,_⟩:=hJ.2 h5;exact(hc.block _ (jE hj) (TS.zn hS hj t1 t2 t3 t4 t5)).trans hj
  have gv:=hold hv aB aB aB aB aB;have g3:=hold h3 aB aB aB aB aB;have keep:i≠5->(((l.setIfInBounds i bB).getD 5 aR=aR->v=w/\D1=D)/\((l.setIfInBounds i bB).getD 5 aR=bB->TkR kb nb c vu us dl vo vw ws nm os cnt ep sq u w v)):=λe=>by rw[getD_set_ne aR e];exact hJ
  have go:i≠5->o.guard=Z->(∀t d,(bO a'.eval o).run PQ (on v t d)=.ok (.value (vsV vb kb u (.slice ta tn tc) (.slice la ln lc) i)) (on v t d))->Wq D1 Post XX (b.at a' (.inRegion opsV (i::rest)::k)) A v:=λe E hr=>Wq.val R E hr (J v D1 () (λ_ _=>rfl) (keep e));have ai:=(jE R)
  have e0:=hF.old (s:=0) XN hA.t0;have e3:=hF.old (s:=3) XN hA.t3;have cl:∀{B:Nat}{cs:Array aD}{ty:cH}{fz:Nat×Nat}(o:Nat),v.heap[B]? =M (aL cs ty fz)->∀t d,(on v t d).cell? ⟨B,o,Z⟩=cs[o]?:=λo h t d=>aI (show(on v t d).heap[_]? =_ from h) o;have I:∀j t,Cr.waits opsV i j=bB->Cr.nN opsV j=M t->a'.eval (.tmp t)=vsV vb kb u (.slice ta tn tc) (.slice la ln lc) j:=λj t hw hd=>hF.ev hd (ar j hw)
  match i,ai with
  |0,_=>
   obtain⟨z,E⟩:=Cr.kM (.move (.tmp 0),Z) R rfl;refine go aB E λt d=>?_;unfold bO;simp only[z,e0];rfl
  |1,_=>
   obtain⟨z,E⟩:=Cr.kM (.nilCheck (.tmp 15),Z) R rfl;refine go aB E λt d=>?_;unfold bO;simp only[z,I 0 15 rfl rfl];rfl
  |2,_=>
   obtain⟨z,E⟩:=Cr.kM (.fieldAddr 73 (.tmp 16) 1,Z) R rfl;refine go aB E λt d=>?_;unfold bO;simp only[z,I 1 16 rfl rfl];simp[go_sem];rfl
  |3,_=>
   obtain⟨z,E⟩:=Cr.kM (.load 71 (.tmp 17),Z) R rfl;refine go aB E λt d=>?_;have c0:=cl 1 gv t d;unfold bO;simp only[z,I 2 17 rfl rfl];simp[go_sem,vsV,ptr,c0]
  |4,_=>
   obtain⟨z,E⟩:=Cr.kM (.load 28 (.tmp 3),Z) R rfl;refine go aB E λt d=>?_;have c0:=cl 0 g3 t d;have c1:=cl 1 g3 t d;have c2:=cl 2 g3 t d;have c3:=cl 3 g3 t d;unfold bO;simp only[z,e3];simp[go_sem,vsV,c0,c1,c2,c3]
  |5,_=>
   obtain⟨z,E⟩:=Cr.kM (.call { callee:=.value (.func 31),args:=#[.tmp 18,.tmp 19],argTypes:=#[71,28] },Z) R rfl;have h5:=Cr.AP hi;obtain⟨rfl,rfl⟩:=hJ.1 h5.1;refine QH rd R (Cr.jY E) z (I 3 18 rfl rfl) (I 4 19 rfl rfl) ag hS ap an Y hcf aq aj ae aa λD' w' au v3 ak am ao ah af r1 r2 r3 r4 r5 r6=>J w' D' () (λ_ _=>rfl) ⟨λh=>(by rw[h5.2]at h;cases h),λ_=>⟨au,v3,ak,am,ao,ah,af,r1,r2,r3,r4,r5,r6⟩⟩
end
end
open Hm (ptr jF jP TS jL jI kW AL PC PB PW PU PL lives Fits jJ kQ VP Vg O9 Ui VS Vw lF VO VL Ro IE Pe)
section
variable {k:Nat}{w w':X}
section
variable {w w':X}{kb nb:Nat}{c:Cf}{vu:aD}{us:List PB}{dl:Nat->List (List UInt8)}{vo vw:aD}{ws:List PW}{nm:AL}{os:List PC}{cnt ep sq:Nat}
theorem TS.stands(h:TS w kb nb c vu us dl vo vw ws nm os cnt ep sq)(hk:∀k,Tk kb nb vu vo vw os k->w'.heap[k]? =w.heap[k]?)(J:Ro w w')(I:w'.heap[1]? =w.heap[1]?):TS w' kb nb c vu us dl vo vw ws nm os cnt ep sq:=by
 have z:∀i,w'.cell? ⟨1,i,Z⟩=w.cell? ⟨1,i,Z⟩:=λi=>by unfold World.cell?;rw[I]
 refine⟨⟨(hk _ (bN rfl)).trans h.d.obj,h.d.upper.kept λg e=>hk g (cF (bN e)),h.d.wait.kept λg e=>hk g (cF (cF (bN e))),λj p hp=>Hm.Row.ro (h.d.deps j p hp) (cF rfl) J,λp hp=>Hm.Row.ro (h.d.txs p hp) (cF rfl) J⟩,⟨h.ch.named.of_block (hk _ (cF (cF (cF (bN rfl))))),h.ch.order.kept λg e=>hk g (cF (cF (cF (cF (bN e))))),λo E=>?_,h.ch.apart,h.ch.maps,h.ch.far,h.ch.entries⟩,⟨⟨by rw[z];exact h.hd.1.1,by rw[z];exact h.hd.1.2.1,by rw[z];exact h.hd.1.2.2⟩,⟨by rw[z];exact h.hd.2.1,by rw[z];exact h.hd.2.2.1,by rw[z];exact h.hd.2.2.2⟩⟩,by rw[I];exact h.ht⟩;have hc:=h.ch.chans o E;refine⟨(hk _ (cF (cF (cF (cF (cF ⟨o,E,bN rfl⟩)))))).trans hc.obj,hc.fine,hc.small,hc.lastLt,λe=>?_,hc.spoilt⟩;have s:=hc.sound e;obtain⟨B,R,Y⟩:=s.map;exact⟨⟨B,R,Y.of_block (hk _ (cF (cF (cF (cF (cF ⟨o,E,cF R⟩))))))⟩,s.size,s.room,s.ended,s.last⟩
theorem TS.lt(h:TS w kb nb c vu us dl vo vw ws nm os cnt ep sq)(hk:Tk kb nb vu vo vw os k):k<w.heap.size:=by
 have I:∀{b:Nat}{q:IntKind}{m:AL},Hm.lS w b q m->b<w.heap.size:=λz=>by
  obtain⟨es,J,h,_⟩:=z
  grind
 obtain rfl|e|e|e|e|⟨o,E,e|e⟩:=hk
 .exact(jE h.d.obj)
 .exact h.d.upper.lt e
 .exact h.d.wait.lt e
 .rw[e];exact I h.ch.named
 .exact h.ch.order.lt e
 .rw[e];exact(dY.1 (h.ch.chans o E).obj).1
 .have hc:=h.ch.chans o E;cases hs:o.ch.spoilt with
  |true=>have:=(hc.spoilt hs).2;grind
  |false=>
   obtain⟨B,R,z⟩:=(hc.sound hs).map
   grind
end
structure Ck where
 nb:Nat
 vu:aD
 us:List PB
 dl:Nat->List (List UInt8)
 vo:aD
 vw:aD
 ws:List PW
 nm:AL
 os:List PC
 cnt:Nat
 ep:Nat
 sq:Nat
def Ck.own(y:Ck)(kb k:Nat):Prop:=Tk kb y.nb y.vu y.vo y.vw y.os k
abbrev Ck.at(y:Ck)(w:X)(kb:Nat)(c:Cf):Prop:=TS w kb y.nb c y.vu y.us y.dl y.vo y.vw y.ws y.nm y.os y.cnt y.ep y.sq
def VK(v:Vw)(y:Ck)(k:Nat):Prop:=VO v k\/y.own v.kb k
structure VC(c:Cf)(chain:List X2)(j:Nat)(v:Vw)(y:Ck)(w:X):Prop where
 vw:lF w v
 ts:y.at w v.kb c
 rm:Hm.RM c chain j y.us y.dl ⟨y.ws,y.cnt,y.ep,y.sq⟩ (lives y.nm y.os) ((v.log++v.com).map Prod.fst)
 seen:v.seen=(chain.take j).map (·.id)
 osl:y.os.length<=4440*j
 fits:Fits c.most (lives y.nm y.os)
 hdl:∀i,(y.dl i).length<=4294967296
 low:∀k,VK v y k->Tryz.prog.globals.size<=k
theorem lF.heap{v:Vw}(h:lF w v)(q:w'.heap=w.heap):lF w' v:=h.kept (λk _=>by rw[q]) λg _ _ _ _ _=>by rw[q]
theorem Jj{v:Vw}(h:lF w v)(hk:VO v k):∃cs t z,w.heap[k]? =M (aL cs t z):=by
 have key:∀{E s n:Nat}{u:aD}{xs:List aD},Hm.Row w E s u n xs->u.ownBlock=M k->∃cs t z,w.heap[k]? =M (aL cs t z):=λI e=>by
  obtain⟨c,hc⟩:=I.obj e;exact⟨_,_,_,hc⟩
 obtain(rfl|e|e)|e:=hk
 .exact⟨_,_,_,h.obj⟩
 .exact key h.log e
 .exact key h.com e
 .exact key h.seen e
theorem ny(h:Tryz.prog.globals.size<=k):1≠k:=λe=>by
 have:1<Tryz.prog.globals.size:=Z2 XN;omega
theorem Ro.heap(q:w'.heap=w.heap):Ro w w':=λg _ _ _ _ _=>by rw[q]
section
variable {c:Cf}{chain:List X2}{j:Nat}{v:Vw}{y:Ck}{w w':X}
theorem VC.kept(h:VC c chain j v y w)(hk:∀k,VK v y k->w'.heap[k]? =w.heap[k]?)(z:Ro w w')(E:w'.heap[1]? =w.heap[1]?):VC c chain j v y w':=
 ⟨h.vw.kept (λk e=>hk k (bN e)) z,TS.stands h.ts (λk e=>hk k (cF e)) z E,h.rm,h.seen,h.osl,h.fits,h.hdl,h.low⟩
theorem VC.heap(h:VC c chain j v y w)(q:w'.heap=w.heap):VC c chain j v y w':=h.kept (λ_ _=>by rw[q]) (Ro.heap q) (by rw[q])
theorem VC.lt(h:VC c chain j v y w)(hk:VK v y k):k<w.heap.size:=hk.elim h.vw.lt (TS.lt h.ts)
theorem VC.far(h:VC c chain j v y w){cs:Array aD}{t:cH}{z:Nat×Nat}(hc:w.heap[k]? =M (aL cs t z))(ht:t∉[73,52,3,100,102,118,136,140]):¬VK v y k:=by
 simp only[dD,List.not_mem_nil,or_false,not_or]at ht;rintro(e|e)
 .obtain q|q|q:=h.vw.types e hc
  .exact ht.1 q
  .exact ht.2.1 q
  .exact ht.2.2.1 q
 .exact TS.zn h.ts hc ht.2.2.2.1 ht.2.2.2.2.1 ht.2.2.2.2.2.1 ht.2.2.2.2.2.2.1 ht.2.2.2.2.2.2.2 e
theorem VC.ro(h:VC c chain j v y w)(hc:jL (VK v y) w w'):Ro w w':=λg cs t E z ht=>hc.block g (jE z) (h.far z (by rcases ht with rfl|rfl<;>decide))
theorem kV(h:cG w.heap.size w w'):jL (λ_=>False) w w':=(Hm.jI.below h jB _).h
theorem Ro.of(hc:jL (λ_=>False) w w'):Ro w w':=λg _ _ _ z _=>hc.block g (jE z) (λe=>e)
theorem VC.still(h:VC c chain j v y w)(hc:jL (λ_=>False) w w'):VC c chain j v y w':=h.kept (λk hk=>hc.block k (h.lt hk) (λe=>e)) (Ro.of hc) (hc.block _ h.ts.hd.pos (λe=>e))
theorem Wy(hc:Dv.jS chain=bB)(hcf:Dv.jK c=bB)(E:j<=chain.length):(Dv.gone c chain j).log.length<=2147483648:=by have I:=(Dv.oI hc hcf j E).much;have z:=(Dv.jW hc).2.1;unfold Dv.much at I;omega
end
end
end Pa
