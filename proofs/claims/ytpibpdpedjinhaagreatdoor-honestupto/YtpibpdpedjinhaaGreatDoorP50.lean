import Derived.Test.YtpibpdpedjinhaaGreatDoorP43
set_option maxRecDepth 100000
set_option maxHeartbeats 8000000
set_option linter.all false
open Go renaming Value->aD,World->U,wp_region_noPanic->kB
open Go.IntKind renaming i64->X,u32->dE,wrap_i64->cP
open Go.Value renaming int->N,string->aH
open List renaming length_eq_zero_iff->cA
open Option renaming none->Z,some->M
namespace Go.Proofs.YtpibpdpedjinhaaGreatDoor
namespace Hm
open Go.RowKit Go.Joins Go.Shelf
open Dv (Lo Cf X2 Tx)
open Fr (below_drewN)
section
variable {vs:aD}
section
variable {tm:Array aD}{w:U}{pb cb g off cap n i k e:Nat}{c:Cf}{vw:aD}{Q:Exit->Act->U->Prop}
theorem YI{p0 p1 p2:Int}{vg vl vq vt vn:aD}{t W r:Nat}{a0:Int}(h:Hk tm pb cb g off cap n vw e k)(Y:tm[12]? =M (N X (t:Nat)))(I:tm[13]? =M vs)(he:e<=20)(hW:W<=3)(hr:r<=3)(ab:c.window=(W:Nat))(hp:w.heap[pb]? =M (.cells #[N X p0,N X p1,N X p2,vg,vl,vq,vt,vn] 65 (0,0)))(hc:w.heap[cb]? =M (.cells (jL c) 24 (0,0)))(E:∀V,Below w.heap.size w V->Calls PQ 24 #[vl,N X (k:Nat)] V λe w'=>e=.returned (N X a0)/\w'=V)(J:∀V,Calls PQ 22 #[N X a0,N X ((W:Int)+1)] V λe w'=>e=.returned (N X (r:Nat))/\w'=V)(hK:∀q V,Hk q pb cb g off cap n vw e k->q[12]? =M (N X (t:Nat))->q[13]? =M vs->q[14]? =M (N X ((e+r:Nat):Int))->Below w.heap.size w V->Q .normal ⟨q,[]⟩ V):ZM.wp PQ Q ⟨tm,[]⟩ w:=by
 obtain⟨⟨hs,t1,t4,t5,t6⟩,t9,t10,aa⟩:=h;obtain⟨l,rfl,hs⟩:=jX hs
 iterate 273 (obtain⟨_,l,rfl,h'⟩:=jW hs;clear hs;have hs:=h';clear h')
 obtain rfl:=cA.1 hs;clear hs;simp only[eX,eU,dX,aK]at t1 t4 t5 t6 t9 t10 aa Y I;subst t1 t4 t5 t6 t9 t10 aa Y I;unfold jL at hc;obtain⟨k0,k1,-,k3,-,k5⟩:=tX hc;obtain⟨-,-,-,-,c4,-⟩:=tX hp;rw[ab]at k3;have af:IntKind.i64.wrap ((W:Int)+1)=(W:Int)+1:=by rw[cP];omega
 have ae:IntKind.i64.wrap ((e:Int)+(r:Int))=(e:Int)+(r:Int):=by rw[cP];omega
 have HA:Hid _:=λm=>E (w.drewN m) (below_drewN (aJ _ _) _);have ac:Hid _:=E w (aJ _ _);have HP:Hid _:=J;have HK:Hid _:=hK;clear hK E J hp hc;simp only[ZM,mD,cq,Tryz.f7];refine kB ?_;go_quiet (first|(go_at_call 24;first|exact Calls.quiet_of_same (HA.out _)|exact Calls.quiet_of_same ac.out)|(go_at_call 22;exact Calls.quiet_of_same (HP.out _)));refine NoPanic.normal ?_;exact HK.out _ _ ⟨⟨rfl,rfl,rfl,rfl,rfl⟩,rfl,rfl,rfl⟩ rfl rfl (by first|rfl|simp) (below_drewN (aJ _ _) _)
theorem Y1{t p:Nat}(h:Hk tm pb cb g off cap n vw e k)(Y:tm[12]? =M (N X (t:Nat)))(I:tm[13]? =M vs)(J:tm[14]? =M (N X (p:Nat)))(hp:p<=100)(ab:1<=n)(hn:n<=20)(hK:∀q,Hk q pb cb g off cap n vw e k->q[12]? =M (N X (t:Nat))->q[13]? =M vs->q[14]? =M (N X ((min p (n-1):Nat):Int))->Q .normal ⟨q,[]⟩ w):YH.wp PQ Q ⟨tm,[]⟩ w:=by
 obtain⟨⟨hs,t1,t4,t5,t6⟩,t9,t10,aa⟩:=h;obtain⟨l,rfl,hs⟩:=jX hs
 iterate 273 (obtain⟨_,l,rfl,h'⟩:=jW hs;clear hs;have hs:=h';clear h')
 obtain rfl:=cA.1 hs;clear hs;simp only[eX,eU,dX,aK]at t1 t4 t5 t6 t9 t10 aa Y I J;subst t1 t4 t5 t6 t9 t10 aa Y I J;have HK:Hid _:=hK;clear hK;simp only[YH,mD,cq,Tryz.f7];by_cases h1:n<=p
 .have E:(n:Int)<=(p:Int):=by omega
  have q1:decide ((n:Int)<=(p:Int))=true:=Z0 E;rw[show min p (n-1)=n-1 from by omega]at HK;go_wp2_with fail;exact HK.out _ ⟨⟨rfl,rfl,rfl,rfl,rfl⟩,rfl,rfl,rfl⟩ rfl rfl (by first|rfl|(rw[show((n-1:Nat):Int)=(n:Int)-1 from by omega];rfl))
 .have E:¬(n:Int)<=(p:Int):=by omega
  have q1:decide ((n:Int)<=(p:Int))=false:=ZZ E;rw[show min p (n-1)=p from by omega]at HK;go_wp2_with fail;exact HK.out _ ⟨⟨rfl,rfl,rfl,rfl,rfl⟩,rfl,rfl,rfl⟩ rfl rfl rfl
end
end
section
section
variable {tm:Array aD}{w:U}{pb cb g off cap n i k e:Nat}{c:Cf}{vw:aD}{Q:Exit->Act->U->Prop}
theorem Yk{ta:Option Addr}{tn tc m:Nat}{D:ByteArray}{xs:List aD}{ai:Array aD}(h:Hk tm pb cb g off cap n vw e k)(ak:tm[14]? =M (N X (m:Nat)))(ag:tm[15]? =M (aH D))(hm:m<n)(hn:n<=20)(aw:tn<=1000)(m2:w.cell? ⟨g,off+m*4+2,Z⟩=M (.slice ta tn tc))(E:w.heap[g]? =M (.cells ai 42 (0,0)))(hr:Row w 68 3 (.slice ta tn tc) tn xs)(hc:w.heap[cb]? =M (.cells (jL c) 24 (0,0)))(ap:c.batcher=8)(ar:c.inbox=9)(hK:∀af Wa w5 g5 I J,Hk af pb cb g off cap n vw e k->Below w.heap.size w Wa->Row w5 68 3 (.slice (M ⟨g5,I,Z⟩) (tn+1) J) (tn+1) (xs++[N dE 8,N dE 9,aH D])->Grew (.slice ta tn tc) g5 Wa w5->Q .normal ⟨af,[]⟩ (w5.setCell ⟨g,off+m*4+2,Z⟩ (.slice (M ⟨g5,I,Z⟩) (tn+1) J))):(YO).wp PQ Q ⟨tm,[]⟩ w:=by
 obtain⟨⟨hs,t1,t4,t5,t6⟩,t9,t10,an⟩:=h;obtain⟨l,rfl,hs⟩:=jX hs
 iterate 273 (obtain⟨_,l,rfl,h'⟩:=jW hs;clear hs;have hs:=h';clear h')
 obtain rfl:=cA.1 hs;clear hs;simp only[eX,eU,dX,aK]at t1 t4 t5 t6 t9 t10 an ak ag;subst t1 t4 t5 t6 t9 t10 an ak ag;have av:(m:Int)<n:=aA
 have au:=(jG E)
 have fz:=aQ E;obtain⟨i0,ao,ae,ah,aj⟩:=info_parts Sl;have Hi:Hid _:=jD ao (jD ae (jD ah aj));have ab:Hid (∀o,Row (w.alloc o).drew 68 3 (.slice ta tn tc) tn xs):=λo=>hr.kept λq hq=>fV _ _ _ (hr.lt hq);have aq:Hid (∀o,(w.alloc o).drew.heap[g]? =M (.cells ai 42 (0,0))):=λo=>(fV _ _ _ au).trans E;have ca:∀o,(w.alloc o).cell? ⟨g,off+m*4+2,Z⟩=M (.slice ta tn tc):=λo=>BH m2 o;have am:Hid _:=jD m2 E;unfold jL at hc;obtain⟨k0,k1,-,k3,-,k5⟩:=tX hc;rw[ar]at k0;rw[ap]at k1;have b0:∀o,(w.alloc o).cell? ⟨cb,0,Z⟩=M (N dE 9):=BH k0;have b1:∀o,(w.alloc o).cell? ⟨cb,1,Z⟩=M (N dE 8):=BH k1;have HK:Hid _:=hK;clear hK hc hr E ao ae ah aj;simp only[YO,mD,cq,Tryz.f7];refine kB ?_;go_region_law ((refine pY (by rfl) (.tmp 195) (.tmp 202) 39 (by rfl) 68 i0 _ 3 24 (uq Tryz.underlying39) Hi.out.1 Hi.out.2.1 Hi.out.2.2.1 Hi.out.2.2.2 (by rfl) aB _ tn xs (by rfl) (ab.out _) ⟨w.heap.size,0,Z⟩ 1 1 [N dE 8,N dE 9,aH D] (by rfl) aB (by rfl) (by intro j x hj;match j,hj with|0,hj=>(simp at hj;subst hj;simp[Addr.add])|1,hj=>(simp at hj;subst hj;simp[Addr.add])|2,hj=>(simp at hj;subst hj;simp[Addr.add])) (by intro x hx;simp at hx;rcases hx with rfl|rfl|rfl<;>rfl) (by unfold maxLen;omega) aA ?_;intro g5 I J w5 Y aa;have ac:=aa.keep (ab.out _) (aq.out _) aB;have ax:=aQ ac;have s5:w5.cell? ⟨g,off+m*4+2,Z⟩=M (.slice ta tn tc):=(by have e:=am.out.1;rw[aI am.out.2]at e;rw[aI ac];exact e);have H5:Hid _:=jD Y aa;clear Y aa ac))
 all_goals
  refine NoPanic.normal ?_;exact HK.out _ _ _ _ _ _ ⟨⟨rfl,rfl,rfl,rfl,rfl⟩,rfl,rfl,rfl⟩ ((aJ _ w).alloc jE _).drew H5.out.1 H5.out.2
end
end
end Hm
