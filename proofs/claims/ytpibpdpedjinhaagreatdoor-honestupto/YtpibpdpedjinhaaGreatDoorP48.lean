import Derived.Test.YtpibpdpedjinhaaGreatDoorP43
set_option maxRecDepth 100000
set_option maxHeartbeats 8000000
set_option linter.all false
open Go.IntKind renaming i64->X,wrap_i64->cP
open Go.Value renaming int->N,string->aH
open List renaming length_eq_zero_iff->cA
open Option renaming none->Z,some->M
namespace Go.Proofs.YtpibpdpedjinhaaGreatDoor
namespace Hm
open Go.RowKit Go.Joins Go.Shelf
open Dv (Lo Cf X2 Tx)
open Fr (below_drewN)
section
section
variable {tm:Array Value}{w:World}{pb cb g off cap n i k e:Nat}{c:Cf}{vw:Value}{Q:Exit->Act->World->Prop}
theorem YP{S t:Nat}(hS:S<=20)(hk:k<=100)(Y:c.step=(S:Nat))(E:k*S=t)(h:Hk tm pb cb g off cap n vw e k)(hc:w.heap[cb]? =M (.cells (jL c) 24 (0,0)))(hK:∀q,Hk q pb cb g off cap n vw e k->q[12]? =M (N X (t:Int))->Q .normal ⟨q,[]⟩ w):(Yq).wp PQ Q ⟨tm,[]⟩ w:=by
 obtain⟨⟨hs,t1,t4,t5,t6⟩,t9,t10,I⟩:=h;obtain⟨l,rfl,hs⟩:=jX hs
 iterate 273 (obtain⟨_,l,rfl,h'⟩:=jW hs;clear hs;have hs:=h';clear h')
 obtain rfl:=cA.1 hs;clear hs;simp only[eX,eU,dX,aK]at t1 t4 t5 t6 t9 t10 I;subst t1 t4 t5 t6 t9 t10 I;unfold jL at hc;obtain⟨k0,k1,-,k3,-,k5⟩:=tX hc;rw[Y]at k5;have aa:t<=2000:=by rw[<-E];exact bH (Nat.mul_le_mul hk hS) aB
 have J:(k:Int)*(S:Int)=(t:Int):=by rw[<-E];push_cast;rfl
 have ab:IntKind.i64.wrap ((k:Int)*(S:Int))=(t:Int):=by rw[J,cP];omega
 have HK:Hid _:=hK;clear hK hc E;simp only[Yq,mD,cq,Tryz.f7];go_wp2_with fail;exact HK.out _ ⟨⟨rfl,rfl,rfl,rfl,rfl⟩,rfl,rfl,rfl⟩ rfl
theorem Zo{T t:Nat}(h:Hk tm pb cb g off cap n vw e k)(Y:tm[12]? =M (N X (t:Nat)))(hT:T<=100000)(ht:t<=100000)(he:e<n)(hn:n<=20)(m0:e+1<n->w.cell? ⟨g,off+(e+1)*4+1,Z⟩=M (N X (T:Nat)))(hK:∀q,Hk q pb cb g off cap n vw (if e+1<n/\T<=t then e+1 else e) k->q[12]? =M (N X (t:Nat))->Q .normal ⟨q,[]⟩ w):Yh.wp PQ Q ⟨tm,[]⟩ w:=by
 obtain⟨⟨hs,t1,t4,t5,t6⟩,t9,t10,aa⟩:=h;obtain⟨l,rfl,hs⟩:=jX hs
 iterate 273 (obtain⟨_,l,rfl,h'⟩:=jW hs;clear hs;have hs:=h';clear h')
 obtain rfl:=cA.1 hs;clear hs;simp only[eX,eU,dX,aK]at t1 t4 t5 t6 t9 t10 aa Y;subst t1 t4 t5 t6 t9 t10 aa Y;have E:e+1<n->∀u,(Instr.indexAt 25 (.slice (M ⟨g,off,Z⟩) n cap) (N X ((e:Int)+1))).run PQ u=.ok (.pointer (M ⟨g,off+(e+1)*4,Z⟩)) u:=λhl u=>by rw[show(e:Int)+1=((e+1:Nat):Int) from by omega];simp[Instr.indexAt,go_sem,(oO Tryz.sizeOf42)];omega
 have J:Hid _:=hK;clear hK;simp only[Yh,mD,cq,Tryz.f7];by_cases h1:e+1<n
 .have m0:=m0 h1;have E:=E h1;have I:(e:Int)+1<n:=by omega
  have q1:decide ((e:Int)+1<(n:Int))=true:=Z0 I;by_cases h2:T<=t
  .have q2:decide ((T:Int)<=(t:Int))=true:=Z0 aA;have ab:(T:Int)<=(t:Int):=by omega
   rw[ZD ⟨h1,h2⟩]at J;go_wp2_with fail;exact J.out _ ⟨⟨rfl,rfl,rfl,rfl,rfl⟩,rfl,rfl,rfl⟩ rfl
  .have q2:decide ((T:Int)<=(t:Int))=false:=ZZ aA;have ab:¬(T:Int)<=(t:Int):=by omega
   rw[Zs λh=>h2 h.2]at J;go_wp2_with fail;exact J.out _ ⟨⟨rfl,rfl,rfl,rfl,rfl⟩,rfl,rfl,rfl⟩ rfl
 .have I:¬(e:Int)+1<n:=by omega
  have q1:decide ((e:Int)+1<(n:Int))=false:=ZZ I;clear E m0;rw[Zs λh=>h1 h.1]at J;go_wp2_with fail;exact J.out _ ⟨⟨rfl,rfl,rfl,rfl,rfl⟩,rfl,rfl,rfl⟩ rfl
end
end
section
section
variable {tm:Array Value}{w:World}{pb cb g off cap n i k e:Nat}{c:Cf}{vw:Value}{Q:Exit->Act->World->Prop}
theorem Z5{p0 p1 p2:Int}{vg vl vq vt vn:Value}{t p r:Nat}{a0:Int}{vs:Value}{B D:ByteArray}(h:Hk tm pb cb g off cap n vw e k)(ah:tm[12]? =M (N X (t:Nat)))(ae:tm[13]? =M vs)(af:tm[14]? =M (N X (p:Nat)))(he:e<n)(hp:w.heap[pb]? =M (.cells #[N X p0,N X p1,N X p2,vg,vl,vq,vt,vn] 65 (0,0)))(an:g<w.heap.size)(m0:w.cell? ⟨g,off+e*4,Z⟩=M (N X ((100+e:Nat):Int)))(Y:∀V,Below w.heap.size w V->Calls PQ 27 #[N X (e:Nat),N X ((100+e:Nat):Int),N X (t:Nat),vs] V λx w'=>x=.returned (aH B)/\Below w.heap.size w w')(ab:∀V,Below w.heap.size w V->Calls PQ 24 #[vq,N X (k:Nat)] V λe w'=>e=.returned (N X a0)/\w'=V)(ag:∀V,Calls PQ 22 #[N X a0,N X 100] V λe w'=>e=.returned (N X (r:Nat))/\w'=V)(ak:∀V,Below w.heap.size w V->Calls PQ 26 #[N X (k:Nat),aH B,N X (r:Nat)] V λx w'=>x=.returned (aH D)/\Below w.heap.size w w')(hK:∀E V,Hk E pb cb g off cap n vw e k->E[14]? =M (N X (p:Nat))->E[15]? =M (aH D)->Below w.heap.size w V->Q .normal ⟨E,[]⟩ V):YR.wp PQ Q ⟨tm,[]⟩ w:=by
 obtain⟨⟨hs,t1,t4,t5,t6⟩,t9,t10,aj⟩:=h;obtain⟨l,rfl,hs⟩:=jX hs
 iterate 273 (obtain⟨_,l,rfl,h'⟩:=jW hs;clear hs;have hs:=h';clear h')
 obtain rfl:=cA.1 hs;clear hs;simp only[eX,eU,dX,aK]at t1 t4 t5 t6 t9 t10 aj ah ae af;subst t1 t4 t5 t6 t9 t10 aj ah ae af;obtain⟨-,-,-,-,-,c5⟩:=tX hp;have aa:=(jG hp)
 have ao:(e:Int)<n:=aA
 obtain⟨id,am⟩:∃id:Nat,100+e=id:=⟨_,rfl⟩
 rw[am]at m0 Y;have HB:Hid _:=Y;have HA:Hid _:=ab;have HP:Hid _:=ag;have HC:Hid _:=ak;have HS:Hid (∀V,Below w.heap.size w V->V.cell? ⟨g,off+e*4,Z⟩=M (N X (id:Nat))/\V.cell? ⟨pb,5,Z⟩=M vq):=λV hV=>⟨(hV.cell (p:=⟨g,_,Z⟩) an).trans m0,(hV.cell (p:=⟨pb,_,Z⟩) aa).trans c5⟩
 have q:Below w.heap.size w w:=aJ _ _;clear am;have HK:Hid _:=hK;clear hK ab ag hp Y ak m0 c5 aa;simp only[YR,mD,cq,Tryz.f7];refine wp_region_noPanic ?_;go_region_held3 (λV=>V.cell? ⟨g,off+e*4,Z⟩=M (N X (id:Nat))/\V.cell? ⟨pb,5,Z⟩=M vq) ((refine HS.out _ ?_;first|exact q|exact q.drew)) (first|(go_at_call 27;(refine aT (HB.out _ ?_) ?_;(first|exact q|exact q.drew);rintro e' w2 ⟨rfl,ai⟩;replace q:=ai;clear ai))|(go_at_call 24;(refine aT (HA.out _ ?_) ?_;(first|exact q|exact q.drew);rintro e' w3 ⟨rfl,J⟩;replace q:Below w.heap.size w w3:=(by first|(rw[J];exact q)|(rw[J];exact q.drew));clear J))|(go_at_call 22;(refine aT (HP.out _) ?_;rintro e' w4 ⟨rfl,I⟩;replace q:Below w.heap.size w w4:=(by first|(rw[I];exact q)|(rw[I];exact q.drew));clear I))|(go_at_call 26;(refine aT (HC.out _ ?_) ?_;(first|exact q|exact q.drew);rintro e' w5 ⟨rfl,ac⟩;replace q:=ac;clear ac)))
 all_goals
  refine NoPanic.normal ?_;exact HK.out _ _ ⟨⟨rfl,rfl,rfl,rfl,rfl⟩,rfl,rfl,rfl⟩ rfl rfl (by first|exact q|exact q.drew)
end
end
end Hm
