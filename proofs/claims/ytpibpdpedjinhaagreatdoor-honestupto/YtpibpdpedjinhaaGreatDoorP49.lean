import Derived.Test.YtpibpdpedjinhaaGreatDoorP43
set_option maxRecDepth 100000
set_option maxHeartbeats 8000000
set_option linter.all false
open Go.Addr renaming add->gR
open Go.IntKind renaming i64->X
open Go.Value renaming int->N,slice->aR
open List renaming length_eq_zero_iff->cA
open Option renaming none->Z,some->M
namespace Go.Proofs.YtpibpdpedjinhaaGreatDoor
namespace Hm
open Go.RowKit Go.Joins Go.Shelf
open Dv (Lo Cf X2 Tx)
open Fr (below_drewN)
section
section
variable {tm:Array Value}{w:World}{pb cb g off cap n i k e:Nat}{c:Cf}{vw:Value}{Q:Exit->Act->World->Prop}
theorem Zd{p0 p1 p2:Int}{vg vl vq vt vn:Value}{t:Nat}{R:Option Addr->Nat->Nat->World->Prop}(h:Hk tm pb cb g off cap n vw e k)(J:tm[12]? =M (N X (t:Nat)))(hp:w.heap[pb]? =M (.cells #[N X p0,N X p1,N X p2,vg,vl,vq,vt,vn] 65 (0,0)))(q:Calls PQ 25 #[vt,N X (k:Nat)] w λe w'=>∃a m c,e=.returned (.slice a m c)/\R a m c w')(hK:∀E w' a m c,Hk E pb cb g off cap n vw e k->E[12]? =M (N X (t:Nat))->E[13]? =M (.slice a m c)->R a m c w'->Q .normal ⟨E,[]⟩ w'):(XP).wp PQ Q ⟨tm,[]⟩ w:=by
 obtain⟨⟨hs,t1,t4,t5,t6⟩,t9,t10,Y⟩:=h;obtain⟨l,rfl,hs⟩:=jX hs
 iterate 273 (obtain⟨_,l,rfl,h'⟩:=jW hs;clear hs;have hs:=h';clear h')
 obtain rfl:=cA.1 hs;clear hs;simp only[eX,eU,dX,aK]at t1 t4 t5 t6 t9 t10 Y J;subst t1 t4 t5 t6 t9 t10 Y J;obtain⟨-,-,-,-,-,-,c6⟩:=JZ hp;have I:Hid _:=λ(_:Unit)=>q;have HK:Hid _:=hK;clear hK q hp;simp only[XP,mD,cq,Tryz.f7];go_wp2_with (go_at_call 25;refine aT (I.out ()) ?_;rintro e w2 ⟨a,m,c,rfl,h2⟩;have HR:Hid _:=h2;clear h2)
 exact HK.out _ _ _ _ _ ⟨⟨rfl,rfl,rfl,rfl,rfl⟩,rfl,rfl,rfl⟩ rfl rfl HR.out
theorem ZB{t sn sc m mc:Nat}{sa ma:Option Addr}{xs:List Value}(h:Hk tm pb cb g off cap n (.slice ma m mc) e k)(ag:tm[12]? =M (N X (t:Nat)))(ac:tm[13]? =M (.slice sa sn sc))(hr:Row w 62 8 (.slice ma m mc) m xs)(hm:m<=1000)(hK:∀E w' Wa g5 I J,Hk E pb cb g off cap n (aR (M ⟨g5,I,Z⟩) (m+1) J) e k->E[12]? =M (N X (t:Nat))->E[13]? =M (.slice sa sn sc)->Below w.heap.size w Wa->Row w' 62 8 (aR (M ⟨g5,I,Z⟩) (m+1) J) (m+1) (xs++[N X (k:Nat),N X (t:Nat),N X (e:Nat),N X 0,N X 0,.slice sa sn sc,aR Z 0 0,N X 0])->Grew (.slice ma m mc) g5 Wa w'->Q .normal ⟨E,[]⟩ w'):(XU).wp PQ Q ⟨tm,[]⟩ w:=by
 obtain⟨⟨hs,t1,t4,t5,t6⟩,t9,t10,ah⟩:=h;obtain⟨l,rfl,hs⟩:=jX hs
 iterate 273 (obtain⟨_,l,rfl,h'⟩:=jW hs;clear hs;have hs:=h';clear h')
 obtain rfl:=cA.1 hs;clear hs;simp only[eX,eU,dX,aK]at t1 t4 t5 t6 t9 t10 ah ag ac;subst t1 t4 t5 t6 t9 t10 ah ag ac;obtain⟨i0,aj,Y,ab,ae⟩:=info_parts FK;unfold lo0 at Y;have Hi:Hid _:=jD aj (jD Y (jD ab ae));have af:Hid (∀o,Row (w.alloc o) 62 8 (.slice ma m mc) m xs):=λo=>hr.below ((aJ _ w).alloc jE o);have HK:Hid _:=hK;clear hK hr aj Y ab ae;simp only[XU,mD,cq,Tryz.f7];go_wp2_with (at_builtin;refine kJ _ rfl (.tmp 150) (.tmp 156) 35 rfl 62 i0 _ 8 96 (uq Tryz.underlying35) Hi.out.1 Hi.out.2.1 Hi.out.2.2.1 Hi.out.2.2.2 rfl aB (.slice ma m mc) m xs rfl (af.out _) ⟨w.heap.size,0,Z⟩ 1 1 [N X (k:Nat),N X (t:Nat),N X (e:Nat),N X 0,N X 0,.slice sa sn sc,aR Z 0 0,N X 0] rfl aB rfl (by intro j x q;match j,q with|0,q=>(simp at q;subst q;simp[gR])|1,q=>(simp at q;subst q;simp[gR])|2,q=>(simp at q;subst q;simp[gR])|3,q=>(simp at q;subst q;simp[gR])|4,q=>(simp at q;subst q;simp[gR])|5,q=>(simp at q;subst q;simp[gR])|6,q=>(simp at q;subst q;simp[gR])|7,q=>(simp at q;subst q;simp[gR])) (by intro x hx;simp at hx;rcases hx with rfl|rfl|rfl|rfl|rfl|rfl|rfl|rfl<;>rfl) (by unfold maxLen;omega) aA ?_;intro g3 am ak w3 ai aa;have H3:Hid _:=jD ai aa;clear ai aa)
 exact HK.out _ _ _ _ _ _ ⟨⟨rfl,rfl,rfl,rfl,rfl⟩,rfl,rfl,rfl⟩ rfl rfl ((aJ _ w).alloc jE _) H3.out.1 H3.out.2
end
end
section
variable {wa:Option Addr}{wn wc:Nat}
section
variable {tm:Array Value}{w:World}{pb cb g off cap n i k e:Nat}{c:Cf}{vw vl:Value}{Q:Exit->Act->World->Prop}
theorem WL{la:Option Addr}{lc:Nat}(hs:tm.size=273)(Y:tm[9]? =M (.slice wa wn wc))(E:tm[16]? =M (.slice la (wn+1) lc))(I:tm[17]? =M (N X 0))(aa:wn<=1000)(hK:∀q,q.size=273->q[9]? =M (.slice wa wn wc)->q[16]? =M (.slice la (wn+1) lc)->Q .normal ⟨q,[]⟩ w):(Yb).wp PQ Q ⟨tm,[]⟩ w:=by
 obtain⟨l,rfl,hs⟩:=jX hs
 iterate 273 (obtain⟨_,l,rfl,J⟩:=jW hs;clear hs;have hs:=J;clear J)
 obtain rfl:=cA.1 hs;clear hs;simp only[eX,eU,dX,aK]at Y E I;subst Y E I;have HK:Hid _:=hK;clear hK;simp only[Yb,mD,cq,Tryz.f7];go_wp2_with fail;exact HK.out _ rfl rfl rfl
theorem ZE(hs:tm.size=273)(J:tm[9]? =M vw)(q:tm[16]? =M vl)(Y:∀E,Hz E vw vl 0->Q .normal ⟨E,[]⟩ w):(aac).wp PQ Q ⟨tm,[]⟩ w:=by
 obtain⟨l,rfl,hs⟩:=jX hs
 iterate 273 (obtain⟨_,l,rfl,I⟩:=jW hs;clear hs;have hs:=I;clear I)
 obtain rfl:=cA.1 hs;clear hs;simp only[eX,eU,dX,aK]at J q;subst J q;have HK:Hid _:=Y;clear Y;simp only[aac,mD,cq,Tryz.f7];go_wp2_with fail;exact HK.out _ ⟨rfl,rfl,rfl,rfl⟩
theorem Zl(h:Hz tm (.slice wa wn wc) vl i)(Y:∀q,Hz q (.slice wa wn wc) vl i->q[225]? =M (.bool (decide (i<wn)))->Q .normal ⟨q,[]⟩ w):(ZV).wp PQ Q ⟨tm,[]⟩ w:=by
 obtain⟨hs,J,E,t18⟩:=h;obtain⟨l,rfl,hs⟩:=jX hs
 iterate 273 (obtain⟨_,l,rfl,I⟩:=jW hs;clear hs;have hs:=I;clear I)
 obtain rfl:=cA.1 hs;clear hs;simp only[eX,eU,dX,aK]at J E t18;subst J E t18;have HK:Hid _:=Y;clear Y;simp only[ZV,mD,cq,Tryz.f7];go_wp2_with fail;exact HK.out _ ⟨rfl,rfl,rfl,rfl⟩ aC
theorem YZ(h:Hz tm vw vl i)(hi:i<=1000)(Y:∀E,Hz E vw vl (i+1)->Q .normal ⟨E,[]⟩ w):(UK).wp PQ Q ⟨tm,[]⟩ w:=by
 obtain⟨hs,J,q,t18⟩:=h;obtain⟨l,rfl,hs⟩:=jX hs
 iterate 273 (obtain⟨_,l,rfl,I⟩:=jW hs;clear hs;have hs:=I;clear I)
 obtain rfl:=cA.1 hs;clear hs;simp only[eX,eU,dX,aK]at J q t18;subst J q t18;have HK:Hid _:=Y;clear Y;simp only[UK,mD,cq,Tryz.f7];go_wp2_with fail;exact HK.out _ ⟨rfl,rfl,rfl,rfl⟩
theorem Ye(h:Hz tm vw vl i)(Y:∀q,q.size=273->q[2]? =M (.bool true)->Q .normal ⟨q,[]⟩ w):(YJ).wp PQ Q ⟨tm,[]⟩ w:=by
 obtain⟨hs,J,E,t18⟩:=h;obtain⟨l,rfl,hs⟩:=jX hs
 iterate 273 (obtain⟨_,l,rfl,I⟩:=jW hs;clear hs;have hs:=I;clear I)
 obtain rfl:=cA.1 hs;clear hs;simp only[eX,eU,dX,aK]at J E t18;subst J E t18;have HK:Hid _:=Y;clear Y;simp only[YJ,mD,cq,Tryz.f7];go_wp2_with fail;exact HK.out _ rfl rfl
end
end
end Hm
