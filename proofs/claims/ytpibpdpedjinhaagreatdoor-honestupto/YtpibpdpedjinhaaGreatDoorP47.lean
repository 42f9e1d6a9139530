import Derived.Test.YtpibpdpedjinhaaGreatDoorP43
set_option maxRecDepth 100000
set_option maxHeartbeats 8000000
set_option linter.all false
open List renaming length_eq_zero_iff->cA
open Option renaming none->Z,some->M
namespace Go.Proofs.YtpibpdpedjinhaaGreatDoor
namespace Hm
open Go.RowKit Go.Joins Go.Shelf
open Dv (Lo Cf X2 Tx)
open Fr (below_drewN)
section
section
variable {tm:Array Value}{w:World}{pb cb g off cap n i k e:Nat}{c:Cf}{vw:Value}{Q:Exit->Act->World->Prop}
theorem WR(h:Ho tm pb cb g off cap n)(I:∀q,Ho q pb cb g off cap n->q[9]? =M (.slice Z 0 0)->Q .normal ⟨q,[]⟩ w):(abr).wp PQ Q ⟨tm,[]⟩ w:=by
 obtain⟨hs,t1,t4,J,t6⟩:=h;obtain⟨l,rfl,hs⟩:=jX hs
 iterate 273 (obtain⟨_,l,rfl,E⟩:=jW hs;clear hs;have hs:=E;clear E)
 obtain rfl:=cA.1 hs;clear hs;simp only[eX,eU,dX,aK]at t1 t4 J t6;subst t1 t4 J t6;have Y:Hid _:=I;clear I;simp only[abr,mD,cq,Tryz.f7];go_wp2_with fail;exact Y.out _ ⟨rfl,rfl,rfl,rfl,rfl⟩ rfl
theorem Zw(h:Ho tm pb cb g off cap n)(I:tm[9]? =M vw)(J:∀q,Ho q pb cb g off cap n->q[9]? =M vw->q[10]? =M (.int .i64 ((0:Nat):Int))->Q .normal ⟨q,[]⟩ w):(acg).wp PQ Q ⟨tm,[]⟩ w:=by
 obtain⟨hs,t1,t4,Y,t6⟩:=h;obtain⟨l,rfl,hs⟩:=jX hs
 iterate 273 (obtain⟨_,l,rfl,E⟩:=jW hs;clear hs;have hs:=E;clear E)
 obtain rfl:=cA.1 hs;clear hs;simp only[eX,eU,dX,aK]at t1 t4 Y t6 I;subst t1 t4 Y t6 I;have HK:Hid _:=J;clear J;simp only[acg,mD,cq,Tryz.f7];go_wp2_with fail;exact HK.out _ ⟨rfl,rfl,rfl,rfl,rfl⟩ rfl rfl
theorem ZC(h:Ho tm pb cb g off cap n)(I:tm[9]? =M vw)(t10:tm[10]? =M (.int .i64 e))(J:∀q,Hk q pb cb g off cap n vw e 1->Q .normal ⟨q,[]⟩ w):(Xj).wp PQ Q ⟨tm,[]⟩ w:=by
 obtain⟨hs,t1,t4,Y,t6⟩:=h;obtain⟨l,rfl,hs⟩:=jX hs
 iterate 273 (obtain⟨_,l,rfl,E⟩:=jW hs;clear hs;have hs:=E;clear E)
 obtain rfl:=cA.1 hs;clear hs;simp only[eX,eU,dX,aK]at t1 t4 Y t6 I t10;subst t1 t4 Y t6 I t10;have HK:Hid _:=J;clear J;simp only[Xj,mD,cq,Tryz.f7];go_wp2_with fail;exact HK.out _ ⟨⟨rfl,rfl,rfl,rfl,rfl⟩,rfl,rfl,rfl⟩
theorem Zr(h:Hk tm pb cb g off cap n vw e k)(hk:k<=100)(Y:∀q,Hk q pb cb g off cap n vw e (k+1)->Q .normal ⟨q,[]⟩ w):(Vw).wp PQ Q ⟨tm,[]⟩ w:=by
 obtain⟨⟨hs,t1,t4,t5,t6⟩,J,t10,E⟩:=h;obtain⟨l,rfl,hs⟩:=jX hs
 iterate 273 (obtain⟨_,l,rfl,I⟩:=jW hs;clear hs;have hs:=I;clear I)
 obtain rfl:=cA.1 hs;clear hs;simp only[eX,eU,dX,aK]at t1 t4 t5 t6 J t10 E;subst t1 t4 t5 t6 J t10 E;have HK:Hid _:=Y;clear Y;simp only[Vw,mD,cq,Tryz.f7];go_wp2_with fail;exact HK.out _ ⟨⟨rfl,rfl,rfl,rfl,rfl⟩,rfl,rfl,rfl⟩
end
end
section
variable {q wg wo wn wc:Nat}
section
variable {tm:Array Value}{w:World}{pb cb g off cap n i k e:Nat}{c:Cf}{vw vl:Value}{Q:Exit->Act->World->Prop}
theorem YA{Y xc sn sc:Nat}{J sa:Option Addr}(h:Hz tm (.slice (M ⟨wg,wo,Z⟩) wn wc) vl i)(t19:tm[19]? =M (.pointer (M ⟨q,0,Z⟩)))(hi:i<wn)(z5:w.cell? ⟨q,5,Z⟩=M (.slice J Y xc))(y5:w.cell? ⟨wg,wo+i*8+5,Z⟩=M (.slice sa sn sc))(E:∀V,Below w.heap.size w V->Calls PQ 28 #[.slice J Y xc,.slice sa sn sc] V λe w'=>e=.returned (.bool true)/\Below w.heap.size w w'/\w'.cell? ⟨q,5,Z⟩=M (.slice J Y xc)/\w'.cell? ⟨wg,wo+i*8+5,Z⟩=M (.slice sa sn sc))(hK:∀I V,Hz I (.slice (M ⟨wg,wo,Z⟩) wn wc) vl i->I[19]? =M (.pointer (M ⟨q,0,Z⟩))->I[20]? =M (.bool true)->Below w.heap.size w V->Q .normal ⟨I,[]⟩ V):Za.wp PQ Q ⟨tm,[]⟩ w:=by
 obtain⟨hs,t9,aa,t18⟩:=h;obtain⟨l,rfl,hs⟩:=jX hs
 iterate 273 (obtain⟨_,l,rfl,h'⟩:=jW hs;clear hs;have hs:=h';clear h')
 obtain rfl:=cA.1 hs;clear hs;simp only[eX,eU,dX,aK]at t9 aa t18 t19;subst t9 aa t18 t19;have ae:(i:Int)<wn:=aA
 have HC:Hid _:=E;have HK:Hid _:=hK;have hS:w.cell? ⟨q,5,Z⟩=M (.slice J Y xc)/\w.cell? ⟨wg,wo+i*8+5,Z⟩=M (.slice sa sn sc):=⟨z5,y5⟩
 clear hK E;simp only[Za,mD,cq,Tryz.f7];refine wp_region_noPanic ?_;go_region_held3 (λV=>V.cell? ⟨q,5,Z⟩=M (.slice J Y xc)/\V.cell? ⟨wg,wo+i*8+5,Z⟩=M (.slice sa sn sc)) (first|exact hS|exact ac) ((go_at_call 28;(refine aT (HC.out _ ?_) ?_;(first|exact aJ _ _|exact(aJ _ _).drew);rintro e' w5 ⟨rfl,ab,ac⟩)))
 all_goals
  refine NoPanic.normal ?_;exact HK.out _ _ ⟨rfl,rfl,rfl,rfl⟩ rfl rfl (by first|exact ab|exact ab.drew)
theorem Zv{a0 a1 a2:Int}(h:Hz tm (.slice (M ⟨wg,wo,Z⟩) wn wc) vl i)(t19:tm[19]? =M (.pointer (M ⟨q,0,Z⟩)))(t20:tm[20]? =M (.bool true))(hi:i<wn)(z0:w.cell? ⟨q,0,Z⟩=M (.int .i64 a0))(y0:w.cell? ⟨wg,wo+i*8,Z⟩=M (.int .i64 a0))(z1:w.cell? ⟨q,1,Z⟩=M (.int .i64 a1))(y1:w.cell? ⟨wg,wo+i*8+1,Z⟩=M (.int .i64 a1))(z2:w.cell? ⟨q,2,Z⟩=M (.int .i64 a2))(y2:w.cell? ⟨wg,wo+i*8+2,Z⟩=M (.int .i64 a2))(hK:∀I V,Hz I (.slice (M ⟨wg,wo,Z⟩) wn wc) vl i->Below w.heap.size w V->Q .normal ⟨I,[]⟩ V):Zp.wp PQ Q ⟨tm,[]⟩ w:=by
 obtain⟨hs,Y,E,t18⟩:=h;obtain⟨l,rfl,hs⟩:=jX hs
 iterate 273 (obtain⟨_,l,rfl,J⟩:=jW hs;clear hs;have hs:=J;clear J)
 obtain rfl:=cA.1 hs;clear hs;simp only[eX,eU,dX,aK]at Y E t18 t19 t20;subst Y E t18 t19 t20;have aa:(i:Int)<wn:=aA
 have HK:Hid _:=hK;clear hK;simp only[Zp,mD,cq,Tryz.f7];go_upto_region 43 with fail;go_quiet (fail);go_wp2_with fail;exact HK.out _ _ ⟨rfl,rfl,rfl,rfl⟩ (below_drewN (aJ _ _) _)
end
end
end Hm
