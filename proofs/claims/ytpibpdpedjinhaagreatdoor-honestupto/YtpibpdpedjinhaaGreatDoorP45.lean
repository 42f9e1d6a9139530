import Derived.Test.YtpibpdpedjinhaaGreatDoorP43
set_option maxRecDepth 100000
set_option maxHeartbeats 8000000
set_option linter.all false
open Go.IntKind renaming i64->X
open Go.Value renaming int->N,pointer->aM,slice->aR
open List renaming length_eq_zero_iff->cA
open Option renaming none->Z,some->M
namespace Go.Proofs.YtpibpdpedjinhaaGreatDoor
namespace Hm
open Go.RowKit Go.Joins Go.Shelf
open Dv (Lo Cf X2 Tx)
open Fr (below_drewN)
section
section
variable {tm:Array Value}{w:World}{pb cb g off cap n i k:Nat}{c:Cf}{vw:Value}{Q:Exit->Act->World->Prop}
theorem ab7{Y p1 p2:Int}{vg vl vq vt vn:Value}{r:Nat}(hs:tm.size=273)(t1:tm[1]? =M (aM (M ⟨pb,0,Z⟩)))(t4:tm[4]? =M (aM (M ⟨cb,0,Z⟩)))(hp:w.heap[pb]? =M (.cells #[N X Y,N X p1,N X p2,vg,vl,vq,vt,vn] 65 (0,0)))(E:∀V,Calls PQ 22 #[N X Y,N X 20] V λe w'=>e=.returned (N X (r:Nat))/\w'=V)(hr:r<20)(J:∀q,q.size=273->q[1]? =M (aM (M ⟨pb,0,Z⟩))->q[4]? =M (aM (M ⟨cb,0,Z⟩))->q[5]? =M (N X ((1+r:Nat):Int))->Q .normal ⟨q,[]⟩ w):(ho5).wp PQ Q ⟨tm,[]⟩ w:=by
 obtain⟨l,rfl,hs⟩:=jX hs
 iterate 273 (obtain⟨_,l,rfl,I⟩:=jW hs;clear hs;have hs:=I;clear I)
 obtain rfl:=cA.1 hs;clear hs;simp only[eX,eU,dX,aK]at t1 t4;subst t1 t4;have c0:=nT hp;have HP:Hid _:=E;have HK:Hid _:=J;clear J E hp;simp only[ho5,mD,cq,Tryz.f7];go_wp2_with (go_at_call 22;(with_reducible refine aT (HP.out _) ?_);rintro e w2 ⟨rfl,hw⟩;subst w2)
 exact HK.out _ rfl rfl rfl rfl
theorem acn(hs:tm.size=273)(t1:tm[1]? =M (aM (M ⟨pb,0,Z⟩)))(t4:tm[4]? =M (aM (M ⟨cb,0,Z⟩)))(t5:tm[5]? =M (N X (n:Int)))(hn:n<=20)(hK:∀E,Ho E pb cb w.heap.size 0 n n->Q .normal ⟨E,[]⟩ (w.alloc (.cells (madeCells #[N X 0,N X 0,aR Z 0 0,aR Z 0 0] (n*4)) 42))):(ho6).wp PQ Q ⟨tm,[]⟩ w:=by
 obtain⟨l,rfl,hs⟩:=jX hs
 iterate 273 (obtain⟨_,l,rfl,Y⟩:=jW hs;clear hs;have hs:=Y;clear Y)
 obtain rfl:=cA.1 hs;clear hs;simp only[eX,eU,dX,aK]at t1 t4 t5;subst t1 t4 t5;obtain⟨i0,hi,q,I,J⟩:=info_parts U7
 have aa:∀u:World,(Instr.makeSlice 25 (N X (n:Int)) (N X (n:Int))).run PQ u=.ok (aR (M ⟨u.heap.size,0,Z⟩) n n) (u.alloc (.cells (madeCells #[N X 0,N X 0,aR Z 0 0,aR Z 0 0] (n*4)) 42)):=λu=>by
  have h:=run_make (P:=PQ) u 25 42 i0 (.agg #[N X 0,N X 0,aR Z 0 0,aR Z 0 0]) (uq Tryz.underlying25) hi q X X (n:Int) (n:Int) aA (Int.le_refl _) (by rw[J];omega) aA;rw[show(n:Int).toNat=n from by omega]at h;simpa[I,Value.cells]using h
 clear hi q I J;have HK:Hid _:=hK;clear hK;simp only[ho6,mD,cq,Tryz.f7];go_wp2_with fail;exact HK.out _ ⟨rfl,rfl,rfl,rfl,rfl⟩
theorem aaI(h:Ho tm pb cb g off cap n)(I:∀q,Ho q pb cb g off cap n->q[7]? =M (N X ((0:Nat):Int))->Q .normal ⟨q,[]⟩ w):(VR).wp PQ Q ⟨tm,[]⟩ w:=by
 obtain⟨hs,t1,t4,J,t6⟩:=h;obtain⟨l,rfl,hs⟩:=jX hs
 iterate 273 (obtain⟨_,l,rfl,E⟩:=jW hs;clear hs;have hs:=E;clear E)
 obtain rfl:=cA.1 hs;clear hs;simp only[eX,eU,dX,aK]at t1 t4 J t6;subst t1 t4 J t6;have Y:Hid _:=I;clear I;simp only[VR,mD,cq,Tryz.f7];go_wp2_with fail;exact Y.out _ ⟨rfl,rfl,rfl,rfl,rfl⟩ rfl
theorem abY(h:Ho tm pb cb g off cap n)(t7:tm[7]? =M (N X (i:Nat)))(I:∀q,Ho q pb cb g off cap n->q[7]? =M (N X (i:Nat))->q[41]? =M (.bool (decide (i<n)))->Q .normal ⟨q,[]⟩ w):(ho8).wp PQ Q ⟨tm,[]⟩ w:=by
 obtain⟨hs,t1,t4,J,t6⟩:=h;obtain⟨l,rfl,hs⟩:=jX hs
 iterate 273 (obtain⟨_,l,rfl,E⟩:=jW hs;clear hs;have hs:=E;clear E)
 obtain rfl:=cA.1 hs;clear hs;simp only[eX,eU,dX,aK]at t1 t4 J t6 t7;subst t1 t4 J t6 t7;have Y:Hid _:=I;clear I;simp only[ho8,mD,cq,Tryz.f7];go_wp2_with fail;exact Y.out _ ⟨rfl,rfl,rfl,rfl,rfl⟩ rfl aC
theorem abH(h:Ho tm pb cb g off cap n)(t7:tm[7]? =M (N X (i:Nat)))(hi:i<100)(I:∀q,Ho q pb cb g off cap n->q[7]? =M (N X ((i+1:Nat):Int))->Q .normal ⟨q,[]⟩ w):(ho9).wp PQ Q ⟨tm,[]⟩ w:=by
 obtain⟨hs,t1,t4,J,t6⟩:=h;obtain⟨l,rfl,hs⟩:=jX hs
 iterate 273 (obtain⟨_,l,rfl,E⟩:=jW hs;clear hs;have hs:=E;clear E)
 obtain rfl:=cA.1 hs;clear hs;simp only[eX,eU,dX,aK]at t1 t4 J t6 t7;subst t1 t4 J t6 t7;have Y:Hid _:=I;clear I;simp only[ho9,mD,cq,Tryz.f7];go_wp2_with fail;exact Y.out _ ⟨rfl,rfl,rfl,rfl,rfl⟩ rfl
end
end
section
section
variable {tm:Array Value}{w:World}{pb cb g off cap n i k e:Nat}{c:Cf}{vw vl:Value}{Q:Exit->Act->World->Prop}
theorem VY{lg lo I lc Y xc dn dc:Nat}{nu ti ep id sq at_:Int}{J da:Option Addr}(h:Hz tm vw (aR (M ⟨lg,lo,Z⟩) I lc) i)(hi:i+1<I)(hl:I<=100000)(m0:w.cell? ⟨lg,lo+(i+1)*8,Z⟩=M (N X nu))(m1:w.cell? ⟨lg,lo+(i+1)*8+1,Z⟩=M (N X ti))(m2:w.cell? ⟨lg,lo+(i+1)*8+2,Z⟩=M (N X ep))(m3:w.cell? ⟨lg,lo+(i+1)*8+3,Z⟩=M (N X id))(m4:w.cell? ⟨lg,lo+(i+1)*8+4,Z⟩=M (N X sq))(m5:w.cell? ⟨lg,lo+(i+1)*8+5,Z⟩=M (.slice J Y xc))(m6:w.cell? ⟨lg,lo+(i+1)*8+6,Z⟩=M (.slice da dn dc))(m7:w.cell? ⟨lg,lo+(i+1)*8+7,Z⟩=M (N X at_))(hK:∀q,Hz q vw (aR (M ⟨lg,lo,Z⟩) I lc) i->q[19]? =M (aM (M ⟨w.heap.size,0,Z⟩))->Q .normal ⟨q,[]⟩ (w.alloc (.cells #[N X nu,N X ti,N X ep,N X id,N X sq,.slice J Y xc,.slice da dn dc,N X at_] 62))):(ZR).wp PQ Q ⟨tm,[]⟩ w:=by
 obtain⟨hs,t9,E,t18⟩:=h;obtain⟨l,rfl,hs⟩:=jX hs
 iterate 273 (obtain⟨_,l,rfl,h'⟩:=jW hs;clear hs;have hs:=h';clear h')
 obtain rfl:=cA.1 hs;clear hs;simp only[eX,eU,dX,aK]at t9 E t18;subst t9 E t18;have aa:∀u,(Instr.indexAt 35 (aR (M ⟨lg,lo,Z⟩) I lc) (N X ((i:Int)+1))).run PQ u=.ok (aM (M ⟨lg,lo+(i+1)*8,Z⟩)) u:=λu=>by rw[show(i:Int)+1=((i+1:Nat):Int) from by omega];simp[Instr.indexAt,go_sem,(oO Tryz.sizeOf62)];omega
 have HK:Hid _:=hK;clear hK;simp only[ZR,mD,cq,Tryz.f7];go_wp2_with fail;exact HK.out _ ⟨rfl,rfl,rfl,rfl⟩ rfl
end
end
end Hm
