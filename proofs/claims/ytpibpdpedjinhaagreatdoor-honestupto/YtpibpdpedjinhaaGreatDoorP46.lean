import Derived.Test.YtpibpdpedjinhaaGreatDoorP43
set_option maxRecDepth 100000
set_option maxHeartbeats 8000000
set_option linter.all false
open Go renaming Value->aD,World->U
open Go.Instr renaming indexAt->iX
open Go.IntKind renaming i64->X,u32->dE,wrap_i64->cP
open Go.Value renaming int->N,pointer->aM,string->aH
open List renaming length_eq_zero_iff->cA
open Option renaming none->Z,some->M
namespace Go.Proofs.YtpibpdpedjinhaaGreatDoor
namespace Hm
open Go.RowKit Go.Joins Go.Shelf
open Dv (Lo Cf X2 Tx)
open Fr (below_drewN)
section
section
variable {tm:Array aD}{w:U}{pb cb g off cap n i k:Nat}{c:Cf}{vw:aD}{Q:Exit->Act->U->Prop}
theorem Z7{x:aD}(h:Ho tm pb cb g off cap n)(t7:tm[7]? =M (N X (i:Nat)))(hi:i<n)(hn:n<=20)(m0:w.cell? ⟨g,off+i*4,Z⟩=M x)(fz:∀j,w.frozen? ⟨g,j,Z⟩=false)(I:∀q,Ho q pb cb g off cap n->q[7]? =M (N X (i:Nat))->Q .normal ⟨q,[]⟩ (w.setCell ⟨g,off+i*4,Z⟩ (N X ((100+i:Nat):Int)))):(XR).wp PQ Q ⟨tm,[]⟩ w:=by
 obtain⟨hs,t1,t4,J,t6⟩:=h;obtain⟨l,rfl,hs⟩:=jX hs
 iterate 273 (obtain⟨_,l,rfl,E⟩:=jW hs;clear hs;have hs:=E;clear E)
 obtain rfl:=cA.1 hs;clear hs;simp only[eX,eU,dX,aK]at t1 t4 J t6 t7;subst t1 t4 J t6 t7;have Y:(i:Int)<n:=aA
 have HK:Hid _:=I;clear I;simp only[XR,mD,cq,Tryz.f7];go_wp2_with fail;exact HK.out _ ⟨rfl,rfl,rfl,rfl,rfl⟩ rfl
theorem Wp(h:Ho tm pb cb g off cap n)(t7:tm[7]? =M (N X (i:Nat)))(I:∀q,Ho q pb cb g off cap n->q[7]? =M (N X (i:Nat))->q[51]? =M (.bool (decide (0<i)))->Q .normal ⟨q,[]⟩ w):(Uy).wp PQ Q ⟨tm,[]⟩ w:=by
 obtain⟨hs,t1,t4,J,t6⟩:=h;obtain⟨l,rfl,hs⟩:=jX hs
 iterate 273 (obtain⟨_,l,rfl,E⟩:=jW hs;clear hs;have hs:=E;clear E)
 obtain rfl:=cA.1 hs;clear hs;simp only[eX,eU,dX,aK]at t1 t4 J t6 t7;subst t1 t4 J t6 t7;have Y:Hid _:=I;clear I;simp only[Uy,mD,cq,Tryz.f7];go_wp2_with fail;exact Y.out _ ⟨rfl,rfl,rfl,rfl,rfl⟩ rfl aC
theorem XF{p0 p1 p2:Int}{vg vl vq vt:aD}{na:Option Addr}{J nc:Nat}(h:Ho tm pb cb g off cap n)(t7:tm[7]? =M (N X (i:Nat)))(hp:w.heap[pb]? =M (.cells #[N X p0,N X p1,N X p2,vg,vl,vq,vt,.slice na J nc] 65 (0,0)))(I:∀q,Ho q pb cb g off cap n->q[7]? =M (N X (i:Nat))->q[77]? =M (.bool (decide (0<J)))->Q .normal ⟨q,[]⟩ w):(Ul).wp PQ Q ⟨tm,[]⟩ w:=by
 obtain⟨hs,t1,t4,Y,t6⟩:=h;obtain⟨l,rfl,hs⟩:=jX hs
 iterate 273 (obtain⟨_,l,rfl,E⟩:=jW hs;clear hs;have hs:=E;clear E)
 obtain rfl:=cA.1 hs;clear hs;simp only[eX,eU,dX,aK]at t1 t4 Y t6 t7;subst t1 t4 Y t6 t7;obtain⟨-,-,-,-,-,-,-,c7⟩:=mJ hp;have HK:Hid _:=I;clear I hp;simp only[Ul,mD,cq,Tryz.f7];go_wp2_with fail;exact HK.out _ ⟨rfl,rfl,rfl,rfl,rfl⟩ rfl aC
end
end
section
variable {q fr tw:Nat}{D:ByteArray}
section
variable {tm:Array aD}{w:U}{pb cb g off cap n i k:Nat}{c:Cf}{vw:aD}{Q:Exit->Act->U->Prop}
theorem XH(h:Ho tm pb cb g off cap n)(t7:tm[7]? =M (N X (i:Nat)))(t8:tm[8]? =M (aM (M ⟨q,0,Z⟩)))(J:w.heap[q]? =M (.cells #[N dE (fr:Nat),N dE (tw:Nat),aH D] 68 (0,0)))(hc:w.heap[cb]? =M (.cells (jL c) 24 (0,0)))(I:c.batcher=8)(hK:∀E w' Y,Ho E pb cb g off cap n->E[7]? =M (N X (i:Nat))->E[8]? =M (aM (M ⟨q,0,Z⟩))->(∀B,B<=q->Below B w w')->Y≠8->(fr≠8->Y=fr)->(fr=8->Y=7)->w'.heap[q]? =M (.cells #[N dE (Y:Nat),N dE (tw:Nat),aH D] 68 (0,0))->Q .normal ⟨E,[]⟩ w'):(Tn).wp PQ Q ⟨tm,[]⟩ w:=by
 obtain⟨hs,t1,t4,t5,t6⟩:=h;obtain⟨l,rfl,hs⟩:=jX hs
 iterate 273 (obtain⟨_,l,rfl,h'⟩:=jW hs;clear hs;have hs:=h';clear h')
 obtain rfl:=cA.1 hs;clear hs;simp only[eX,eU,dX,aK]at t1 t4 t5 t6 t7 t8;subst t1 t4 t5 t6 t7 t8;obtain⟨z0,z1,z2⟩:=cells3 J;have fz:=aQ J;unfold jL at hc;obtain⟨-,k1⟩:=cells2 hc;rw[I]at k1;have Hq:Hid _:=J;have HK:Hid _:=hK;clear hK J hc I;simp only[Tn,mD,cq,Tryz.f7];by_cases h8:fr=8
 .subst h8;go_wp2_with fail;exact HK.out _ _ 7 ⟨rfl,rfl,rfl,rfl,rfl⟩ rfl rfl (λB hB=>(aJ _ _).setCell hB _) aB (λh=>Xs rfl h) (λ_=>rfl) (jV Hq.out 0 _)
 .have aa:((fr:Int) == 8)=false:=ZS aA;go_wp2_with fail;exact HK.out _ _ fr ⟨rfl,rfl,rfl,rfl,rfl⟩ rfl rfl (λB hB=>aJ _ _) h8 (λ_=>rfl) (λh=>Xs h h8) Hq.out
theorem Yd(h:Ho tm pb cb g off cap n)(t7:tm[7]? =M (N X (i:Nat)))(t8:tm[8]? =M (aM (M ⟨q,0,Z⟩)))(I:w.heap[q]? =M (.cells #[N dE (fr:Nat),N dE (tw:Nat),aH D] 68 (0,0)))(hD:D.size<=4294967296)(hK:∀E w' D',Ho E pb cb g off cap n->E[7]? =M (N X (i:Nat))->E[8]? =M (aM (M ⟨q,0,Z⟩))->(∀B,B<=q->Below B w w')->D'.data.toList=D.data.toList.take 2000->w'.heap[q]? =M (.cells #[N dE (fr:Nat),N dE (tw:Nat),aH D'] 68 (0,0))->Q .normal ⟨E,[]⟩ w'):(Uc).wp PQ Q ⟨tm,[]⟩ w:=by
 obtain⟨hs,t1,t4,t5,t6⟩:=h;obtain⟨l,rfl,hs⟩:=jX hs
 iterate 273 (obtain⟨_,l,rfl,h'⟩:=jW hs;clear hs;have hs:=h';clear h')
 obtain rfl:=cA.1 hs;clear hs;simp only[eX,eU,dX,aK]at t1 t4 t5 t6 t7 t8;subst t1 t4 t5 t6 t7 t8;obtain⟨z0,z1,z2⟩:=cells3 I;have fz:=aQ I;have Y:Hid _:=I;have HK:Hid _:=hK;clear hK I;simp only[Uc,mD,cq,Tryz.f7];by_cases h2:2000<D.size
 .have J:(2000:Int)<(D.size:Int):=by omega
  have q2:(2000:Int)<=(D.size:Int):=aA
  have q3:decide ((2000:Int)<(D.size:Int))=true:=Z0 J;go_wp2_with fail;exact HK.out _ _ _ ⟨rfl,rfl,rfl,rfl,rfl⟩ rfl rfl (λB hB=>(aJ _ _).setCell hB _) (by rw[ext_list];simp) (jV Y.out 2 _)
 .have J:¬(2000:Int)<(D.size:Int):=by omega
  have q3:decide ((2000:Int)<(D.size:Int))=false:=ZZ J;go_wp2_with fail;exact HK.out _ _ D ⟨rfl,rfl,rfl,rfl,rfl⟩ rfl rfl (λB hB=>aJ _ _) (by rw[eH (by rw[<-bD];omega)]) Y.out
end
end
section
section
variable {tm:Array aD}{w:U}{pb cb g off cap n i k e:Nat}{c:Cf}{vw:aD}{Q:Exit->Act->U->Prop}
theorem YU{T j:Nat}(h:Hk tm pb cb g off cap n vw e k){S t:Nat}(hS:S<=20)(hk:k<=100)(ac:c.step=(S:Nat))(E:k*S=t)(hT:T<=100000)(hn:n<=20)(hj:j+1=n)(hc:w.heap[cb]? =M (.cells (jL c) 24 (0,0)))(m0:w.cell? ⟨g,off+j*4+1,Z⟩=M (N X (T:Nat)))(hK:∀q V,Hk q pb cb g off cap n vw e k->q[123]? =M (.bool (decide (t<=T)))->Below w.heap.size w V->Q .normal ⟨q,[]⟩ V):XG.wp PQ Q ⟨tm,[]⟩ w:=by
 obtain⟨⟨hs,t1,t4,t5,t6⟩,t9,t10,Y⟩:=h;obtain⟨l,rfl,hs⟩:=jX hs
 iterate 273 (obtain⟨_,l,rfl,h'⟩:=jW hs;clear hs;have hs:=h';clear h')
 obtain rfl:=cA.1 hs;clear hs;simp only[eX,eU,dX,aK]at t1 t4 t5 t6 t9 t10 Y;subst t1 t4 t5 t6 t9 t10 Y;unfold jL at hc;obtain⟨k0,k1,-,k3,-,k5⟩:=tX hc;rw[ac]at k5;have I:(n:Int)-1=j:=aA
 have ai:(j:Int)<n:=aA
 have ag:∀u,(iX 25 (.slice (M ⟨g,off,Z⟩) n cap) (N X ((n:Int)-1))).run PQ u=.ok (aM (M ⟨g,off+j*4,Z⟩)) u:=λu=>by rw[I];simp[iX,go_sem,(oO Tryz.sizeOf42)];omega
 have J:IntKind.i64.wrap ((n:Int)-1)=j:=by rw[cP];omega
 have ae:∀u,(iX 25 (.slice (M ⟨g,off,Z⟩) n cap) (N X (IntKind.i64.wrap ((n:Int)-1)))).run PQ u=.ok (aM (M ⟨g,off+j*4,Z⟩)) u:=λu=>by rw[J];simp[iX,go_sem,(oO Tryz.sizeOf42)];omega
 have af:t<=2000:=by rw[<-E];exact bH (Nat.mul_le_mul hk hS) aB
 have ab:(k:Int)*(S:Int)=(t:Int):=by rw[<-E];push_cast;rfl
 have ah:IntKind.i64.wrap ((k:Int)*(S:Int))=(t:Int):=by rw[ab,cP];omega
 have aa:decide ((t:Int)<=(T:Int))=decide (t<=T):=decide_eq_decide.2 aA;have HK:Hid _:=hK;clear hK hc I J E;simp only[XG,mD,cq,Tryz.f7];refine wp_region_noPanic ?_;go_quiet (fail);refine NoPanic.normal ?_;exact HK.out _ _ ⟨⟨rfl,rfl,rfl,rfl,rfl⟩,rfl,rfl,rfl⟩ (by first|rfl|exact Z1 _ (Z1 _ aa)|simp) (below_drewN (aJ _ _) _)
end
end
end Hm
