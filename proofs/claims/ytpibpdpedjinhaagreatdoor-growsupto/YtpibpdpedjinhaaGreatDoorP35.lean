import Derived.Test.YtpibpdpedjinhaaGreatDoorP34
import Derived.Test.YtpibpdpedjinhaaGreatDoorRows
import Derived.ProofKit
import Derived.OpenShut
import Derived.Deep.Slices
import Derived.Deep.Strs
import Derived.Deep.DeepHandedRow
import Derived.Lib.LaidTab
import Derived.ChangeOld
import Derived.Carry
set_option maxRecDepth 100000
set_option maxHeartbeats 8000000
set_option linter.unusedSimpArgs false
namespace Go.Proofs.YtpibpdpedjinhaaGreatDoor
namespace Hm
open Go.RowKit Go.Joins Go.Shelf
open Fr (below_drewN)
open Dv (Lo)
section
variable {w w':World} {ps qs:List PL}
def uQ (w:World) (v:Value) (ps:List PL):Prop:=Rd w 8 v ps.length (ps.flatMap ku)/\∀p,p∈ps->kM w p.2.1 p.1.txs/\kM w p.2.2 p.1.deps/\p.1.txs.length<=9223372036854775807/\p.1.deps.length<=9223372036854775807
theorem uQ.below {v:Value} (h:uQ w v ps) (q:Below w.heap.size w w'):uQ w' v ps:=⟨h.1.below q,λp hp=>⟨Row.below (h.2 p hp).1 q,Row.below (h.2 p hp).2.1 q,(h.2 p hp).2.2⟩⟩
theorem KH (p:PL):(ku p).length=8:=rfl
theorem uQ.cells {w:World} {g off cap:Nat} {ps:List PL} {n:Nat} (h:uQ w (.slice (some ⟨g,off,none⟩) n cap) ps) {i:Nat} {p:PL} (z:ps[i]? =some p):∀(j:Nat) (u:Value),(ku p)[j]? =some u->w.cell? ⟨g,off+(i * 8+j),none⟩=some u:=λj u q=>by
 have E:n=ps.length:=by
  obtain ⟨a,c,e⟩:=h.1.slice
  simp only [Value.slice.injEq] at e
  exact e.2.1
 subst E
 exact Rd.rec ku 8 KH h.1 z (by have:=(aF.1 q).1;simpa [ku] using this) q
def JE (ps qs:List PL) (w:World) (e:Ending) (w':World):Prop:=∃r,e=.returned (.bool r)/\(r=true↔(qs.map Prod.fst) <+:(ps.map Prod.fst))/\Below w.heap.size w w'
theorem JE.yes (h:(qs.map Prod.fst) <+:(ps.map Prod.fst)) (q:Below w.heap.size w w'):JE ps qs w (.returned (.bool true)) w':=⟨true,rfl,⟨λ_=>h,λ_=>rfl⟩,q⟩
theorem JE.no (h:¬(qs.map Prod.fst) <+:(ps.map Prod.fst)) (q:Below w.heap.size w w'):JE ps qs w (.returned (.bool false)) w':=⟨false,rfl,⟨λe=>(by cases e),λe=>absurd e h⟩,q⟩
theorem LU (va vb:Value) (ps qs:List PL) (w:World) (ha:uQ w va ps) (Y:uQ w vb qs) (hl:ps.length<=9223372036854775807):Calls PQ 23 #[va,vb] w (JE ps qs w):=by
 obtain ⟨aa,ac,rfl⟩:=ha.1.slice
 obtain ⟨ba,bc,rfl⟩:=Y.1.slice
 obtain ⟨na,E⟩:∃n,ps.length=n:=⟨_,rfl⟩
 obtain ⟨nb,I⟩:∃n,qs.length=n:=⟨_,rfl⟩
 have H:Hid _:=jB ha (jB Y (jB E I))
 rw [E] at hl
 rw [E,I]
 clear ha Y E I
 by_cases hn:na < nb
 ·have aj:(na:Int) < (nb:Int):=by omega
  go_enter (fq Tryz.func23 rfl),Tryz.ntmps23
  go_wp2_with fail
  go_ret
  obtain ⟨ha,Y,E,I⟩:=H.out
  refine JE.no (λe=>?_) (aB _ _)
  have:=e.length_le
  simp only [aU] at this
  omega
 ·have aj:¬(na:Int) < (nb:Int):=by omega
  go_enter (fq Tryz.func23 rfl),Tryz.ntmps23
  go_wp2_with fail
  go_loopg [5,6] nb (λgg t _ wr=>∃i:Nat,i<=nb/\t=.int .i64 i/\gg=nb - i/\Hid ((qs.map Prod.fst).take i=(ps.map Prod.fst).take i/\Below w.heap.size w wr))
  case atStart=>exact ⟨0,dF _,rfl,rfl,⟨rfl,aB _ _⟩⟩
  case round=>
   obtain ⟨i,hi,rfl,rfl,HI⟩:=hrel
   obtain ⟨ha,Y,E,I⟩:=H.out
   by_cases ao:i < nb
   ·have ai:(i:Int) < (nb:Int):=by omega
    have an:(i:Int) < (na:Int):=by omega
    obtain ⟨x,hx⟩:∃x,ps[i]? =some x:=⟨_,aG (by omega)⟩
    obtain ⟨y,hy⟩:∃y,qs[i]? =some y:=⟨_,aG (by omega)⟩
    have z:=HI.out.2
    obtain ⟨g1,o1,d1,e1,_⟩:=ha.1.pos (by omega)
    obtain ⟨g2,o2,d2,e2,_⟩:=Y.1.pos (by omega)
    simp only [Value.slice.injEq] at e1 e2
    obtain ⟨rfl,_,rfl⟩:=e1
    obtain ⟨rfl,_,rfl⟩:=e2
    have R:=(ha.below z).cells hx
    have J:=(Y.below z).cells hy
    have sx:=ha.2 x (aQ hx)
    have sy:=Y.2 y (aQ hy)
    have q:=λ(V:World) (hV:Below w.heap.size w V)=>Rh x y V (Row.below sx.1 hV) (Row.below sx.2.1 hV) (Row.below sy.1 hV) (Row.below sy.2.1 hV) sx.2.2.1 sx.2.2.2
    obtain ⟨a1,c1,f1⟩:=Row.slice sx.1
    obtain ⟨a2,c2,f2⟩:=Row.slice sx.2.1
    obtain ⟨a3,c3,f3⟩:=Row.slice sy.1
    obtain ⟨a4,c4,f4⟩:=Row.slice sy.2.1
    unfold ku at R J q
    rw [f1,f2,f3,f4] at q
    rw [f1,f2] at R
    rw [f3,f4] at J
    have k0:wr.cell? ⟨g1,o1+i * 8,none⟩=_:=R 0 _ rfl
    have k1:wr.cell? ⟨g1,o1+i * 8+1,none⟩=_:=R 1 _ rfl
    have k2:wr.cell? ⟨g1,o1+i * 8+2,none⟩=_:=R 2 _ rfl
    have k3:wr.cell? ⟨g1,o1+i * 8+3,none⟩=_:=R 3 _ rfl
    have k4:wr.cell? ⟨g1,o1+i * 8+4,none⟩=_:=R 4 _ rfl
    have k5:wr.cell? ⟨g1,o1+i * 8+5,none⟩=_:=R 5 _ rfl
    have k6:wr.cell? ⟨g1,o1+i * 8+6,none⟩=_:=R 6 _ rfl
    have k7:wr.cell? ⟨g1,o1+i * 8+7,none⟩=_:=R 7 _ rfl
    have m0:wr.cell? ⟨g2,o2+i * 8,none⟩=_:=J 0 _ rfl
    have m1:wr.cell? ⟨g2,o2+i * 8+1,none⟩=_:=J 1 _ rfl
    have m2:wr.cell? ⟨g2,o2+i * 8+2,none⟩=_:=J 2 _ rfl
    have m3:wr.cell? ⟨g2,o2+i * 8+3,none⟩=_:=J 3 _ rfl
    have m4:wr.cell? ⟨g2,o2+i * 8+4,none⟩=_:=J 4 _ rfl
    have m5:wr.cell? ⟨g2,o2+i * 8+5,none⟩=_:=J 5 _ rfl
    have m6:wr.cell? ⟨g2,o2+i * 8+6,none⟩=_:=J 6 _ rfl
    have m7:wr.cell? ⟨g2,o2+i * 8+7,none⟩=_:=J 7 _ rfl
    have af:Hid _:=q
    have ab:Hid _:=jB hx hy
    have HN:Hid _:=jB E I
    clear q ha Y R J sx sy hx hy f1 f2 f3 f4 E I
    go_upto_region 6 with fail
    go_region_with (go_at_call 54;refine aK (af.out _ ?_) ?_;(first|exact z.drew|exact below_drewN z _|exact z);rintro e5 w5 ⟨r,rfl,ah,am⟩)
    all_goals
     have ae:Below w.heap.size w w5:=Below.trans (by first|exact z.drew|exact below_drewN z _|exact z) (am.mono (by simpa using z.size))
     have ag:Hid (r=true↔x.1=y.1):=ah
     clear ah
     cases r
     ·go_wp2_with fail
      go_ret
      refine JE.no (λe=>?_) ae
      obtain ⟨tl,ak⟩:=e
      have I:=HN.out.2
      have q1:=congrArg (λl=>l[i]?) ak
      rw [bP (by rw [aU];omega),eX,eX,ab.out.1,ab.out.2] at q1
      have q2:=ag.out.2 (eP q1).symm
      cases q2
     ·go_wp2_with fail
      go_roundg (nb - (i+1))
      case measure=>omega
      case rel=>exact ⟨i+1,by omega,by go_num,rfl,⟨by rw [uj (x:=y.1) (by rw [eX,ab.out.2];rfl),uj (x:=x.1) (by rw [eX,ab.out.1];rfl),HI.out.1,ag.out.1 (by first|exact trivial|rfl)],ae⟩⟩
   ·have ai:¬(i:Int) < (nb:Int):=by omega
    clear ha Y
    go_wp2_with fail
    go_ret
    obtain rfl:i=nb:=by omega
    have h1:=HI.out.1
    rw [dV (by rw [aU];omega)] at h1
    exact JE.yes (by rw [h1];exact List.take_prefix _ _) HI.out.2
end
def pk (c n:Int):Int:=(if c < 0 then -(c+1) else c).tmod n
theorem TR {c n:Int} (z:0 < n):0<=pk c n/\pk c n < n:=by
 unfold pk
 have q:0<=(if c < 0 then -(c+1) else c):=by split<;>omega
 exact ⟨Int.tmod_nonneg _ q,Int.tmod_lt_of_pos _ z⟩
theorem pick_any (c n:Int) (w:World) (J:0 < n) (I:n<=9223372036854775807) (Y:-9223372036854775808<=c) (E:c<=9223372036854775807):Calls PQ 22 #[.int .i64 c,.int .i64 n] w λe w'=>e=.returned (.int .i64 (pk c n))/\w'=w:=by
 have hp:=TR (c:=c) J
 have R:(n == 0)=false:=beq_false_of_ne (by omega)
 have z:n≠0:=by omega
 obtain ⟨r,q⟩:∃r,pk c n=r:=⟨_,rfl⟩
 rw [q] at hp⊢
 have hw:IntKind.i64.wrap r=r:=by rw [IntKind.wrap_i64];omega
 by_cases h:c < 0
 ·have h1:IntKind.i64.wrap (c+1)=c+1:=by rw [IntKind.wrap_i64];omega
  have h2:IntKind.i64.wrap (-(c+1))=-(c+1):=by rw [IntKind.wrap_i64];omega
  have h3:(-(c+1)).tmod n=r:=by rw [<-q,pk,if_pos h]
  go_enter (fq Tryz.func22 rfl),Tryz.ntmps22
  go_wp2_with fail
  go_ret
  exact ⟨rfl,rfl⟩
 ·have h3:c.tmod n=r:=by rw [<-q,pk,if_neg h]
  go_enter (fq Tryz.func22 rfl),Tryz.ntmps22
  go_wp2_with fail
  go_ret
  exact ⟨rfl,rfl⟩
open Dv (U Cf Lo)
section
variable {Q:Exit->Act->World->Prop} {u0 u1 u2 u3 u4 u5 u6 u8 u10 u11 u12 u13 u14 u15 u18 u19 u20 u21 u22 u23 u26 u27 u28 u29 u30 u31 u32 u33 u34 u35 u36 u37 u38 u39 u40 u41 u42 u43 u44 u45 u46 u47 u48 u49 u50 u51 u52 u53 u54 u55 u56 u57 u58 u59 u60 u61 u62 u63 u64 u65 u66 u67 u68 u69 u70 u71 u72 u73 u74 u75 u76:Value}
noncomputable def DW:Code:=match Tryz.f5.body with
 |some (.seq c _)=>c
 |_=>.skip
noncomputable def Ea:Code:=match Tryz.f5.body with
 |some (.seq _ (.seq c _))=>c
 |_=>.skip
noncomputable def Em:Code:=match Tryz.f5.body with
 |some (.seq _ (.seq _ (.seq c _)))=>c
 |_=>.skip
noncomputable def DV:Code:=match Tryz.f5.body with
 |some (.seq _ (.seq _ (.seq _ (.seq c _))))=>c
 |_=>.skip
noncomputable def yX:Code:=match Tryz.f5.body with
 |some (.seq _ (.seq _ (.seq _ (.seq _ (.seq c _)))))=>c
 |_=>.skip
noncomputable def EZ:Code:=match Tryz.f5.body with
 |some (.seq _ (.seq _ (.seq _ (.seq _ (.seq _ (.seq c _))))))=>c
 |_=>.skip
noncomputable def EL:Code:=match Tryz.f5.body with
 |some (.seq _ (.seq _ (.seq _ (.seq _ (.seq _ (.seq _ (.seq c _)))))))=>c
 |_=>.skip
noncomputable def Qc:Code:=match Tryz.f5.body with
 |some (.seq _ (.seq _ (.seq _ (.seq _ (.seq _ (.seq _ (.seq _ c)))))))=>c
 |_=>.skip
theorem GZ:Tryz.f5.body=some (.seq DW (.seq Ea (.seq Em (.seq DV (.seq yX (.seq EZ (.seq EL Qc))))))):=by kernel_rfl
theorem Y4 (c:Cf) (v:Value) (q:Int) (w:World) (z:Q .normal { tmps:=#[.agg #[.int .u32 c.inbox,.int .u32 c.batcher,.int .i64 c.timeout,.int .i64 c.window,.int .i64 c.drift,.int .i64 c.step,.int .i64 c.most],v,.int .i64 q,.pointer (some ⟨w.heap.size,0,none⟩),undef,undef,.bool false,undef,undef,undef,undef,undef,undef,undef,undef,undef,undef,undef,undef,undef,undef,undef,undef,undef,undef,undef,undef,undef,undef,undef,undef,undef,undef,undef,undef,undef,undef,undef,undef,undef,undef,undef,undef,undef,undef,undef,undef,undef,undef,undef,undef,undef,undef,undef,undef,undef,undef,undef,undef,undef,undef,undef,undef,undef,undef,undef,undef,undef,undef,undef,undef,undef,undef,undef,undef,undef,undef],defers:=[] } (w.alloc (.cells #[.int .u32 c.inbox,.int .u32 c.batcher,.int .i64 c.timeout,.int .i64 c.window,.int .i64 c.drift,.int .i64 c.step,.int .i64 c.most] 24))):DW.wp PQ Q { tmps:=#[.agg #[.int .u32 c.inbox,.int .u32 c.batcher,.int .i64 c.timeout,.int .i64 c.window,.int .i64 c.drift,.int .i64 c.step,.int .i64 c.most],v,.int .i64 q,undef,undef,undef,undef,undef,undef,undef,undef,undef,undef,undef,undef,undef,undef,undef,undef,undef,undef,undef,undef,undef,undef,undef,undef,undef,undef,undef,undef,undef,undef,undef,undef,undef,undef,undef,undef,undef,undef,undef,undef,undef,undef,undef,undef,undef,undef,undef,undef,undef,undef,undef,undef,undef,undef,undef,undef,undef,undef,undef,undef,undef,undef,undef,undef,undef,undef,undef,undef,undef,undef,undef,undef,undef,undef],defers:=[] } w:=by
 simp only [DW,Tryz.f5]
 go_wp2_with fail
 exact z
theorem Y2 {J E I z q:Value} (w:World) (R:Q .normal { tmps:=#[u0,u1,u2,u3,u4,u5,u6,.bool true,u8,J,u10,u11,u12,u13,u14,u15,.bool true,.bool false,u18,u19,u20,u21,u22,u23,z,q,u26,u27,u28,u29,u30,u31,u32,u33,u34,u35,u36,u37,u38,u39,u40,u41,u42,u43,u44,u45,u46,u47,u48,u49,u50,u51,u52,u53,u54,u55,u56,u57,u58,u59,u60,u61,u62,u63,u64,u65,u66,u67,u68,u69,u70,u71,u72,u73,u74,u75,u76],defers:=[] } w):Em.wp PQ Q { tmps:=#[u0,u1,u2,u3,u4,u5,u6,.bool true,u8,J,u10,u11,u12,u13,u14,u15,E,I,u18,u19,u20,u21,u22,u23,z,q,u26,u27,u28,u29,u30,u31,u32,u33,u34,u35,u36,u37,u38,u39,u40,u41,u42,u43,u44,u45,u46,u47,u48,u49,u50,u51,u52,u53,u54,u55,u56,u57,u58,u59,u60,u61,u62,u63,u64,u65,u66,u67,u68,u69,u70,u71,u72,u73,u74,u75,u76],defers:=[] } w:=by
 simp only [Em,Tryz.f5]
 go_wp2_with fail
 exact R
theorem YW {J q z I E:Value} (w:World) (R:Q .normal { tmps:=#[u0,u1,u2,u3,u4,u5,u6,J,u8,.int .i64 0,u10,u11,u12,u13,u14,u15,q,z,u18,u19,u20,u21,u22,u23,.int .i64 0,.bool false,u26,u27,u28,u29,u30,u31,u32,u33,u34,u35,u36,u37,u38,u39,u40,u41,u42,u43,u44,u45,u46,u47,u48,u49,u50,u51,u52,u53,u54,u55,u56,u57,u58,u59,u60,u61,u62,u63,u64,u65,u66,u67,u68,u69,u70,u71,u72,u73,u74,u75,u76],defers:=[] } w):yX.wp PQ Q { tmps:=#[u0,u1,u2,u3,u4,u5,u6,J,u8,.int .i64 0,u10,u11,u12,u13,u14,u15,q,z,u18,u19,u20,u21,u22,u23,I,E,u26,u27,u28,u29,u30,u31,u32,u33,u34,u35,u36,u37,u38,u39,u40,u41,u42,u43,u44,u45,u46,u47,u48,u49,u50,u51,u52,u53,u54,u55,u56,u57,u58,u59,u60,u61,u62,u63,u64,u65,u66,u67,u68,u69,u70,u71,u72,u73,u74,u75,u76],defers:=[] } w:=by
 simp only [yX,Tryz.f5]
 go_wp2_with fail
 exact R
theorem JZ {u0 u1 u2 u3 u4 u5 u6 u7 u10 u11 u12 u13 u14 u15 z I u18 u19 u20 u21 u22 u23 E q u26 u27 u28 u29 u30 u31 u32 u33 u34 u35 u36 u37 u38 u39 u40 u41 u42 u43 u44 u45 u46 u47 u48 u49 u50 u51 u52 u53 u54 u55 u56 u57 u58 u59 u60 u61 u62 u63 u64 u65 u66 u67 u68 u69 u70 u71 u72 u73 u74 u75 u76:Value} (xa:Option Addr) (cap:Nat) (e:Int) (he:e=1\/e=2) (w:World) (Y:∀R:Array Value,R[6]? =some (.bool true)->Q .ret { tmps:=R,defers:=[] } w):yX.wp PQ Q { tmps:=#[u0,u1,u2,u3,u4,u5,u6,u7,.slice xa 0 cap,.int .i64 e,u10,u11,u12,u13,u14,u15,z,I,u18,u19,u20,u21,u22,u23,E,q,u26,u27,u28,u29,u30,u31,u32,u33,u34,u35,u36,u37,u38,u39,u40,u41,u42,u43,u44,u45,u46,u47,u48,u49,u50,u51,u52,u53,u54,u55,u56,u57,u58,u59,u60,u61,u62,u63,u64,u65,u66,u67,u68,u69,u70,u71,u72,u73,u74,u75,u76],defers:=[] } w:=by
 have J:Hid _:=Y
 clear Y
 simp only [yX,Tryz.f5]
 rcases he with rfl|rfl
 ·go_wp2_with fail
  exact J.out _ rfl
 ·go_wp2_with fail
  exact J.out _ rfl
theorem YD {u0 u4 u5 u6 u7 u9 u10 u11 u12 u13 u14 u15 J Y u18 u19 u20 u21 u22 u23 R I u26 u27 u28 u29 u30 u31 u32 u33 u34 u35 u36 u37 u38 u39 u40 u41 u42 u43 u44 u45 u46 u47 u48 u49 u50 u51 u52 u53 u54 u55 u56 u57 u58 u59 u60 u61 u62 u63 u64 u65 u66 u67 u68 u69 u70 u71 u72 u73 u74 u75 u76:Value} (z:Int) (xa:Option Addr) (n vc:Nat) (hn:0 < n) (aa:n<=4294967296) (h1:-9223372036854775808<=z) (h2:z<=9223372036854775807) (w:World)
  (hQ:∀E:Array Value,E.size=77->E[1]? =some (.slice xa n vc)->E[3]? =some u3->E[8]? =some u8->E[10]? =some (.int .i64 (1+pk z n))->Q .normal { tmps:=E,defers:=[] } w):EZ.wp PQ Q { tmps:=#[u0,.slice xa n vc,.int .i64 z,u3,u4,u5,u6,u7,u8,u9,u10,u11,u12,u13,u14,u15,J,Y,u18,u19,u20,u21,u22,u23,R,I,u26,u27,u28,u29,u30,u31,u32,u33,u34,u35,u36,u37,u38,u39,u40,u41,u42,u43,u44,u45,u46,u47,u48,u49,u50,u51,u52,u53,u54,u55,u56,u57,u58,u59,u60,u61,u62,u63,u64,u65,u66,u67,u68,u69,u70,u71,u72,u73,u74,u75,u76],defers:=[] } w:=by
 have hp:=TR (c:=z) (n:=n) (by omega)
 have q:=pick_any z n w (by omega) (by omega) h1 h2
 obtain ⟨r,hr⟩:∃r,pk z n=r:=⟨_,rfl⟩
 rw [hr] at q hQ hp
 have H:Hid _:=λ(_:Unit)=>q
 have HQ:Hid _:=hQ
 clear hQ q hr
 simp only [EZ,Tryz.f5]
 go_wp2_with (go_at_call 22;refine aK (H.out ()) ?_;rintro e5 w5 ⟨rfl,rfl⟩)
 refine HQ.out _ rfl rfl rfl rfl ?_
 simp
theorem aaM {u0 u1 u2 u3 u4 u5 u6 u7 u9 u13 u14 u15 ah aj u18 u19 u20 u21 u22 u23 ai ag u26 u27 u28 u29 u30 u31 u32 u33 u34 u35 u36 u37 u38 u39 u40 u41 u42 u43 u44 u45 u46 u47 u48 u49 u50 u51 u52 u53 u54 u55 u56 u57 u58 u59 u60 u61 u62 u63 u64 u65 u66 u67 u68 u69 u70 u71 u72 u73 u74 u75 u76:Value} (va vb:Value) (ps qs:List PL) (n:Int) (r:List Lo) (w:World) (Y:uQ w va ps) (hb:uQ w vb qs) (hl:ps.length<=9223372036854775807) (z:ps.map Prod.fst=qs.map Prod.fst++r) (h1:∀x,x∈r->n<=x.at_) (h2:∀x,x∈qs.map Prod.fst->(x.at_:Int) < n)
  (hQ:∀(tm:Array Value) (W:World),tm[6]? =some (.bool true)->Below w.heap.size w W->Q .ret { tmps:=tm,defers:=[] } W):Qc.wp PQ Q { tmps:=#[u0,u1,u2,u3,u4,u5,u6,u7,va,u9,.int .i64 n,vb,.int .i64 0,u13,u14,u15,ah,aj,u18,u19,u20,u21,u22,u23,ai,ag,u26,u27,u28,u29,u30,u31,u32,u33,u34,u35,u36,u37,u38,u39,u40,u41,u42,u43,u44,u45,u46,u47,u48,u49,u50,u51,u52,u53,u54,u55,u56,u57,u58,u59,u60,u61,u62,u63,u64,u65,u66,u67,u68,u69,u70,u71,u72,u73,u74,u75,u76],defers:=[] } w:=by
 have R:=LU va vb ps qs w Y hb hl
 obtain ⟨aa,ac,rfl⟩:=Y.1.slice
 obtain ⟨ba,bc,rfl⟩:=hb.1.slice
 obtain ⟨na,E⟩:∃n,ps.length=n:=⟨_,rfl⟩
 obtain ⟨nb,I⟩:∃n,qs.length=n:=⟨_,rfl⟩
 have ap:nb<=na:=by
  have:=congrArg List.length z
  simp only [aU,aJ] at this
  omega
 have H:Hid _:=jB Y (jB z (jB h1 (jB h2 (jB E I))))
 have HC:Hid _:=λ(_:Unit)=>R
 have HQ:Hid _:=hQ
 rw [E] at hl
 rw [E,I] at HC⊢
 clear Y hb E I R hQ h1 h2 z
 simp only [Qc,Tryz.f5]
 go_wp2_with (go_at_call 23;refine aK (HC.out ()) ?_;rintro e5 w5 ⟨q,rfl,hq,ak⟩;obtain rfl:q=true:=hq.2 ⟨_,H.out.2.1.symm⟩;clear hq)
 go_loopg [14] na (λgg t wr=>∃i:Nat,i<=na/\t=.int .i64 i/\gg=na - i/\Hid (Below w.heap.size w wr))
 case atStart=>exact ⟨0,dF _,rfl,rfl,ak⟩
 case round=>
  obtain ⟨i,hi,rfl,rfl,HI⟩:=hrel
  obtain ⟨Y,z,h1,h2,E,I⟩:=H.out
  by_cases an:i < na
  ·have af:(i:Int) < (na:Int):=by omega
   obtain ⟨x,hx⟩:∃x,ps[i]? =some x:=⟨_,aG (by omega)⟩
   obtain ⟨g1,o1,d1,e1,_⟩:=Y.1.pos (by omega)
   simp only [Value.slice.injEq] at e1
   obtain ⟨rfl,_,rfl⟩:=e1
   have k7:=((Y.below HI.out).cells hx) 7 _ rfl
   have k7:wr.cell? ⟨g1,o1+i * 8+7,none⟩=_:=k7
   have J:(ps.map Prod.fst)[i]? =some x.1:=by rw [eX,hx];rfl
   rw [z] at J
   by_cases ao:i < nb
   ·have ab:(i:Int) < (nb:Int):=by omega
    rw [bP (by rw [aU];omega)] at J
    have ae:=h2 _ (aQ J)
    clear Y z h1 h2 E I hx J
    go_wp2_with fail
    go_roundg (na - (i+1))
    case measure=>omega
    case rel=>exact ⟨i+1,by omega,by go_num,rfl,HI.out⟩
   ·have ab:¬(i:Int) < (nb:Int):=by omega
    rw [bK (by rw [aU];omega)] at J
    have ae:=h1 _ (aQ J)
    have am:¬(x.1.at_:Int) < n:=by omega
    clear Y z h1 h2 E I hx J ae
    go_wp2_with fail
    go_roundg (na - (i+1))
    case measure=>omega
    case rel=>exact ⟨i+1,by omega,by go_num,rfl,HI.out⟩
  ·have af:¬(i:Int) < (na:Int):=by omega
   clear Y z h1 h2 E I
   go_wp2_with fail
   refine HQ.out _ _ ?_ HI.out
   rfl
end
end Hm
namespace Dv
open Fr (F)
section
variable {chain:List U} {n:Nat}
def Like (u v:U):Prop:=u.id=v.id/\u.time=v.time/\jP u=jP v
theorem Like.refl (u:U):Like u u:=⟨rfl,rfl,rfl⟩
section
variable {c:Cf} {a b:List U} {k:Nat}
theorem Ed (q:∀i,i<=k->Like (a[i]!) (b[i]!)) {e:Nat} (J:e<=k) (t:Int):∀l:List Ba,sift c a k e t l=sift c b k e t l
 |[]=>rfl
 |x::r=>by
  have ih:=Ed q J t r
  rw [sift,sift,ih]
  have h1:holds c a k e t x=holds c b k e t x:=by unfold holds;rw [(q e J).2.1]
  rw [h1]
  by_cases R:late c e t x=true
  ·simp [R]
  ·by_cases E:holds c b k e t x=true
   ·simp [E]
   ·have h2:wrong c a e t x=wrong c b e t x:=by
     simp only [late,iO,decide_eq_true_eq,not_or] at R
     unfold holds at E
     simp only [iO,bY,beq_iff_eq,decide_eq_true_eq,not_or] at E
     have Y:x.epoch<=k:=by omega
     unfold wrong
     rw [(q _ Y).1,(q _ Y).2.1]
     by_cases hk:e+1<=k
     ·rw [(q _ hk).2.1]
     ·have z:x.epoch=e:=by omega
      rw [z]
      by_cases hd:(b[e]!).time+c.drift < t
      ·have:x.txs.isEmpty=false:=by
        cases I:x.txs.isEmpty with
        |false=>rfl
        |true=>exact absurd ⟨⟨⟨I,z⟩,by omega⟩,hd⟩ E.2
       rw [this]
       simp
      ·rw [show decide ((b[e]!).time+c.drift < t)=false from decide_eq_false hd]
       simp only [Bool.false_and]
    rw [h2]
theorem AZ (q:∀i,i<=k->Like (a[i]!) (b[i]!)) {h:Lo} {e:Nat} (z:e<=k) (txs:List (List UInt8)):lay c a k h e txs=lay c b k h e txs:=by
 unfold lay
 rw [(q e z).1,(q e z).2.2]
theorem Qv (hw:1<=c.window) (q:∀i,i<=k->Like (a[i]!) (b[i]!)) {h:Lo} (z:h.epoch<=k) (wait:List Ba):draw c a k h wait=draw c b k h wait:=by
 have hs:=Ed (c:=c) q z (h.time+c.step) wait
 unfold draw
 simp only
 rw [hs]
 cases J:(sift c b k h.epoch (h.time+c.step) wait).1 with
 |hold=>rfl
 |got x=>
  simp only
  obtain ⟨_,_,i3,i4,_,I,_,_⟩:=wI c b k _ _ _ _ J
  have hk:x.epoch<=k:=by
   unfold holds at I
   simp only [gV,iW,beq_eq_false_iff_ne,decide_eq_false_iff_not] at I
   omega
  rw [AZ q hk]
 |no=>
  simp only
  split
  ·rfl
  ·rename_i R
   have E:h.epoch+1<=k:=by omega
   rw [(q _ E).2.1]
   split
   ·rw [AZ q E]
   ·rw [AZ q z]
theorem AY (hw:1<=c.window) (q:∀i,i<=k->Like (a[i]!) (b[i]!)):∀(f:Nat) (h:Lo) (wait:List Ba),h.epoch<=k->draws c a k f h wait=draws c b k f h wait
 |0,_,_,_=>rfl
 |f+1,h,wait,he=>by
  rw [draws,draws,Qv hw q he]
  cases hd:draw c b k h wait with
  |mk o r=>
   cases o with
   |none=>rfl
   |some x=>
    have I:x.epoch<=k:=by
     unfold draw at hd
     simp only at hd
     split at hd
     ·simp at hd
     ·rename_i y E
      simp only [dA,aC] at hd
      obtain ⟨rfl,rfl⟩:=hd
      obtain ⟨_,_,i3,i4,_,z,_,_⟩:=wI c b k _ _ _ _ E
      simp only [lay]
      unfold holds at z
      simp only [gV,iW,beq_eq_false_iff_ne,decide_eq_false_iff_not] at z
      omega
     ·split at hd
      ·simp at hd
      ·simp only [dA,aC] at hd
       obtain ⟨rfl,rfl⟩:=hd
       simp only [lay]
       split<;>omega
    simp only [AY hw q f x r I]
theorem Ou (q:∀i,i<=k->Like (a[i]!) (b[i]!)) (h:Lo) (wait:List Ba):left a k h wait=left b k h wait:=by
 unfold left
 rw [(q k jC).2.1]
theorem PO (hw:1<=c.window) (q:∀i,i<=k->Like (a[i]!) (b[i]!)) (E:heard c (a[k]!).txs=heard c (b[k]!).txs) {s:St} (z:(s.log.getLastD default).epoch<=k):step c a k s=step c b k s:=by
 have ht:take c (a[k]!) k s.chs s.wait=take c (b[k]!) k s.chs s.wait:=by unfold take;rw [E]
 unfold step
 simp only
 rw [ht,Ou q,AY hw q _ _ _ z]
end
def Alike (c:Cf) (u v:U):Prop:=Like u v/\heard c u.txs=heard c v.txs
theorem E5 {c:Cf} {a b:List U} (z:jS a=true) (q:jQ c=true):∀k,k<=a.length->(∀i,i<=k - 1->Alike c (a[i]!) (b[i]!))->gone c a k=gone c b k
 |0,_,hab=>by
  have:=(hab 0 (by omega)).1
  unfold gone start first
  rw [this.1,this.2.1,this.2.2]
 |k+1,hk,hab=>by
  have E:=E5 z q k (by omega) (λi I=>hab i (by omega))
  have J:=(qR z q k (by omega)).epoch
  have hw:1<=c.window:=by
   unfold jQ at q
   simp only [decide_eq_true_eq] at q
   omega
  rw [gone,gone,<-E]
  exact PO hw (λi I=>(hab i (by omega)).1) (hab k (by omega)).2 (by omega)
theorem Qk {c:Cf} (z:jS chain=true) (q:jQ c=true) (I:1<=n) (E:n<=chain.length):gone c (chain.take n) n=gone c chain n:=by
 refine (E5 z q n E (λi J=>?_)).symm
 have:(chain.take n)[i]! =chain[i]!:=by
  simp only [List.getElem!_eq_getElem?_getD]
  rw [iF (by omega)]
 rw [this]
 exact ⟨Like.refl _,rfl⟩
theorem sZ:∀(l:List U) (b:Option Int) (n:Nat),jW b l=true->jW b (l.take n)=true
 |[],_,_,_=>by simp [jW]
 |_::_,_,0,_=>by simp [jW]
 |u::r,b,n+1,h=>by
  rw [List.take_succ_cons,jW,(kC h).1,sZ r _ n (kC h).2]
  rfl
theorem F7 (q:jS chain=true) (z:1<=n) (E:n<=chain.length):jS (chain.take n)=true:=by
 have h:=kJ q
 unfold jS
 rw [sZ _ _ _ h.2.2.1]
 simp only [aZ,Bool.and_true,decide_eq_true_eq]
 omega
theorem Ar {c:Cf} {chain:List U} {k:Nat}:∀(f:Nat) (h:Lo) (wait:List Ba) (x:Lo),x∈(draws c chain k f h wait).1->x.at_=k
 |0,_,_,x,q=>by simp [draws] at q
 |f+1,h,wait,x,q=>by
  rw [draws] at q
  cases hd:draw c chain k h wait with
  |mk o r=>
   rw [hd] at q
   cases o with
   |none=>simp at q
   |some y=>
    simp only [bV] at q
    rcases q with rfl|q
    ·unfold draw at hd
     simp only at hd
     split at hd
     ·simp at hd
     ·simp only [dA,aC] at hd
      obtain ⟨rfl,_⟩:=hd
      rfl
     ·split at hd
      ·simp at hd
      ·simp only [dA,aC] at hd
       obtain ⟨rfl,_⟩:=hd
       rfl
    ·exact Ar f y r x q
theorem Ey (c:Cf) (chain:List U) (n:Nat):∀m:Nat,∃r,(gone c chain (n+m)).log=(gone c chain n).log++r/\∀x,x∈r->n<=x.at_
 |0=>⟨[],by simp,by simp⟩
 |m+1=>by
  obtain ⟨r,z,h2⟩:=Ey c chain n m
  rw [<-dO,gone]
  unfold step
  simp only
  rw [z]
  refine ⟨_,fE ..,λx q=>?_⟩
  rcases dG.1 q with q|q
  ·exact h2 x q
  ·have:=Ar _ _ _ _ q
   omega
theorem Oo (c:Cf) (chain:List U):∀n:Nat,∀x,x∈(gone c chain n).log->x.at_ < n\/x.at_=0
 |0,x,q=>by
  simp [gone,start,first] at q
  subst q
  exact .inr rfl
 |n+1,x,q=>by
  rw [gone] at q
  unfold step at q
  simp only at q
  rcases dG.1 q with q|q
  ·rcases Oo c chain n x q with h|h
   ·exact .inl (by omega)
   ·exact .inr h
  ·have:=Ar _ _ _ _ q
   exact .inl (by omega)
theorem Ov {c:Cf} (E:jS chain=true) (q:jQ c=true) (R:1<=n) (I:n<=chain.length):
  ∃r,(all c chain).2=(all c (chain.take n)).2++r/\(∀x,x∈r->n<=x.at_)/\(∀x,x∈(all c (chain.take n)).2->x.at_ < n)/\(all c (chain.take n)).1=0:=by
 have z:=F7 E R I
 have Y:all c chain=(0,(gone c chain chain.length).log):=by unfold all;rw [if_neg (by simp [q]),if_neg (by simp [E])]
 have e2:all c (chain.take n)=(0,(gone c chain n).log):=by
  unfold all
  rw [if_neg (by simp [q]),if_neg (by simp [z]),aZ,fO I,Qk E q R I]
 obtain ⟨r,J,h2⟩:=Ey c chain n (chain.length - n)
 rw [show n+(chain.length - n)=chain.length from by omega] at J
 rw [Y,e2]
 exact ⟨r,J,h2,λx hx=>by rcases Oo c chain n x hx with h|h<;>omega,rfl⟩
end
end Dv
namespace Pa
open Go Go.Conc Go.RowKit Go.Joins
open Hm (ptr jI kF oG lN PU ku kM DW Ea Em DV yX EZ EL Qc uQ)
open Dv (U Cf)
open Po hiding U H B IT PR NB
open Cr (Fill)
section
variable {w:World} {va:Value} {pl:List Hm.PL}
theorem F5 {e s n:Nat} {v:Value} {xs:List Value} (h:Hm.Row w e s v n xs):n<=9223372036854775807:=by
 rcases h.2 with ⟨_,h⟩|⟨g,off,cap,q,_,_,z,h2,_⟩
 ·omega
 ·have:maxLen=9223372036854775807:=rfl
  omega
theorem Nh (q:Hm.Row w 62 8 va pl.length (pl.flatMap ku)) (hs:∀p,p∈pl->kM w p.2.1 p.1.txs/\kM w p.2.2 p.1.deps):uQ w va pl:=
 ⟨q.rd,λp hp=>⟨(hs p hp).1,(hs p hp).2,F5 (hs p hp).1,F5 (hs p hp).2⟩⟩
theorem Tn {xa:Option Addr} {vc:Nat} {ps:List PU} {n:Nat} (h:lN w (.slice xa ps.length vc) ps) (Y:n<=ps.length):lN w (.slice xa (ps.take n).length vc) (ps.take n):=by
 obtain ⟨⟨J,a,cap,e,h2,h3⟩,h4⟩:=h
 simp only [Value.slice.injEq] at e
 obtain ⟨rfl,_,rfl⟩:=e
 have R:(ps.take n).length=n:=by rw [aZ];omega
 refine ⟨⟨?_,xa,vc,rfl,by omega,λE=>?_⟩,λp hp=>h4 p (jd hp)⟩
 ·exact Hm.nJ Hm.rV 4 (λ_=>rfl) _
 ·obtain ⟨g,off,rfl,z,I⟩:=h3 (by omega)
  refine ⟨g,off,rfl,z,λj u q=>I j u ?_⟩
  have e:ps.flatMap Hm.rV=(ps.take n).flatMap Hm.rV++(ps.drop n).flatMap Hm.rV:=by rw [<-gX,List.take_append_drop]
  rw [e,bP (aF.1 q).1]
  exact q
theorem Nk {w':World} (h:uQ w va pl) (q:kF (λ_=>False) w w'):uQ w' va pl:=
 ⟨Hm.Rd.kept h.1 q.size (λ_ g _ E=>q.block g E (λe=>e)),λp hp=>⟨Hm.Row.kept (h.2 p hp).1 (λg z=>q.block g (Hm.Row.lt (h.2 p hp).1 z) (λe=>e)),Hm.Row.kept (h.2 p hp).2.1 (λg z=>q.block g (Hm.Row.lt (h.2 p hp).2.1 z) (λe=>e)),(h.2 p hp).2.2⟩⟩
noncomputable def Ut:Array Oper:=match Ea with
 |.region _ ops _=>ops
 |_=>#[]
theorem SG:∃q,Ea=.region q Ut false:=⟨_,rfl⟩
theorem IE:List.range Ut.size=[0,1]:=by kernel_rfl
noncomputable def Rf:Array Oper:=match DV with
 |.region _ ops _=>ops
 |_=>#[]
theorem UU:∃q,DV=.region q Rf false:=⟨_,rfl⟩
theorem Jz:List.range Rf.size=[0,1,2,3,4,5,6,7]:=by kernel_rfl
noncomputable def ops8:Array Oper:=match EL with
 |.region _ ops _=>ops
 |_=>#[]
theorem QK:∃q,EL=.region q ops8 true:=⟨_,rfl⟩
theorem Zm:Cr.fills 77 ops8=true:=by kernel_rfl
theorem Ox (w:World) (g off len vc n:Nat) (E:n<=len) (q:len<=vc):(do pure (.value (<-Instr.sliceAt 25 (.slice (some ⟨g,off,none⟩) len vc) none (some (.int .i64 n)) none)):Sem Next).run PQ w=.ok (.value (.slice (some ⟨g,off,none⟩) n vc)) w:=by
 have z:(n:Int)<=(vc:Int):=by omega
 simp [go_sem,z]
def ZC (c:Cf) (g off len vc n:Nat) (e:Int) (q:Value) (i:Nat):Value:=(#[.agg (jI c),.slice (some ⟨g,off,none⟩) len vc,.int .i64 n,.slice (some ⟨g,off,none⟩) n vc,.tuple #[q,.int .i64 e],.tuple #[q,.int .i64 e],q,.int .i64 e,q,.int .i64 e]:Array Value).getD i undef
structure Ans (w0:World) (c:Cf) (us:List U) (w:World) (va:Value) (pl:List Hm.PL):Prop where
 row:Hm.Row w 62 8 va pl.length (pl.flatMap ku)
 strs:∀p,p∈pl->kM w p.2.1 p.1.txs/\kM w p.2.2 p.1.deps
 log:pl.map Prod.fst=(Dv.all c us).2
 jR:kF (λ_=>False) w0 w
section
variable {Post:Eh} {D:Nat->Prop} {Z A:List Frame} {w:World} {b:Frame} {a:Act} {k:List Item} {bc:Nat} {c:Cf} {va0:Value} {g off len vc n:Nat} {ps:List PU}
theorem Vt (rd:Cr.ReadW) {ah:Nat} (ac:a.tmps.size=77) (ai:a.defers=[]) (aj:a.tmps[1]? =some (.slice (some ⟨g,off,none⟩) len vc)) (aq:a.tmps[3]? =some (ptr bc)) (am:a.tmps[8]? =some va0) (aa:a.tmps[10]? =some (.int .i64 n)) (hb:w.heap[bc]? =some (.cells (jI c) 24 (0,0))) (ak:n<=len) (ap:len<=vc) (ae:ps.length=n) (ag:ps.length<=4294967296) (ao:Tryz.prog.globals.size<=w.heap.size) (ab:lN w (.slice (some ⟨g,off,none⟩) n vc) ps) (hH:pV w)
  (hQ:∀a' w' D' vb pl,a'.tmps.size=77->a'.defers=[]->a'.tmps[8]? =some va0->a'.tmps[10]? =some (.int .i64 n)->a'.tmps[11]? =some vb->a'.tmps[12]? =some (.int .i64 (Dv.all c (ps.map Prod.fst)).1)->Ans w c (ps.map Prod.fst) w' vb pl->Wq D' Post Z (b.at a' k) A w'):
  Wq D Post Z (b.at a (.code (.region ah ops8 true)::k)) A w:=by
 refine Wq.fill (τ:=Value×List Hm.PL) (λz=>ZC c g off len vc n (Dv.all c (ps.map Prod.fst)).1 z.1) (λl v D1 z=>(l.getD 4 false=false->v=w/\D1=D)/\(l.getD 4 false=true->Ans w c (ps.map Prod.fst) v z.1 z.2)) (by rw [ac];exact Zm) (λl a' v D1 z hl J hJ=>?_) (λl a' v D1 z i o rest R hi an J hJ Y=>?_) (undef,[]) ⟨λ_=>⟨rfl,rfl⟩,λh=>by rw [show ops8.size=10 from rfl] at h;cases h⟩
 ·have e:∀{i t},i < 10->Cr.mO ops8 i=some t->a'.tmps[t]? =some (ZC c g off len vc n (Dv.all c (ps.map Prod.fst)).1 z.1 i):=λhi hd=>J.got _ _ hd (hl _ hi)
  exact hQ a' v D1 z.1 z.2 (J.size.trans ac) (J.defers.trans ai) ((J.slot (by kernel_rfl)).trans am) ((J.slot (by kernel_rfl)).trans aa) (e (i:=8) (by decide) rfl) (e (i:=9) (by decide) rfl) (hJ.2 (hl 4 (by decide)))
 ·have hold:∀j,j < w.heap.size->v.heap[j]? =w.heap[j]?:=λj hj=>by
   cases h4:l.getD 4 false with
   |false=>rw [(hJ.1 h4).1]
   |true=>exact (hJ.2 h4).jR.block j hj (λe=>e)
  have gb:=(hold _ (jE hb)).trans hb
  have keep:i≠4->(((l.setIfInBounds i true).getD 4 false=false->v=w/\D1=D)/\((l.setIfInBounds i true).getD 4 false=true->Ans w c (ps.map Prod.fst) v z.1 z.2)):=λe=>by rw [getD_set_ne false e];exact hJ
  have go:i≠4->o.guard=none->(∀t d,(execOp a'.eval o).run PQ (on v t d)=.ok (.value (ZC c g off len vc n (Dv.all c (ps.map Prod.fst)).1 z.1 i)) (on v t d))->Wq D1 Post Z (b.at a' (.inRegion ops8 (i::rest)::k)) A v:=λe E hr=>Wq.val R E hr (Y v D1 z (λ_ _=>rfl) (keep e))
  have af:=(jE R)
  have I:∀j t,Cr.waits ops8 i j=true->Cr.mO ops8 j=some t->a'.eval (.tmp t)=ZC c g off len vc n (Dv.all c (ps.map Prod.fst)).1 z.1 j:=λj t hw hd=>J.ev hd (an j hw)
  match i,af with
  |0,_=>
   obtain ⟨q,E⟩:=Cr.kL (.load 24 (.tmp 3),none) R rfl
   refine go (by decide) E λt d=>?_
   have c':=su (w:=on v t d) gb
   have k0:=c' 0
   have k1:=c' 1
   have k2:=c' 2
   have k3:=c' 3
   have k4:=c' 4
   have k5:=c' 5
   have k6:=c' 6
   unfold execOp
   simp only [q,J.old (s:=3) (by kernel_rfl) aq,ptr]
   simp [go_sem,ZC,jI,k0,k1,k2,k3,k4,k5,k6]
  |1,_=>
   obtain ⟨q,E⟩:=Cr.kL (.move (.tmp 1),none) R rfl
   exact go (by decide) E λt d=>by unfold execOp;simp only [q,J.old (s:=1) (by kernel_rfl) aj];rfl
  |2,_=>
   obtain ⟨q,E⟩:=Cr.kL (.move (.tmp 10),none) R rfl
   exact go (by decide) E λt d=>by unfold execOp;simp only [q,J.old (s:=10) (by kernel_rfl) aa];rfl
  |3,_=>
   obtain ⟨q,E⟩:=Cr.kL (.slice 25 (.tmp 44) none (some (.tmp 45)) none,none) R rfl
   refine go (by decide) E λt d=>?_
   unfold execOp
   simp only [q,jf,bQ,I 1 44 rfl rfl,I 2 45 rfl rfl]
   exact Ox _ g off len vc n ak ap
  |4,_=>
   obtain ⟨q,E⟩:=Cr.kL (.call { callee:=.value (.func 12),args:=#[.tmp 43,.tmp 46],argTypes:=#[24,25] },none) R rfl
   have h4:=Cr.F6 hi
   obtain ⟨rfl,rfl⟩:=hJ.1 h4.1
   refine Kr rd (c:=c) (ps:=ps) (xa:=some ⟨g,off,none⟩) (vc:=vc) R (Cr.kG E) q (I 0 43 rfl rfl) ((I 3 46 rfl rfl).trans (by rw [ae];rfl)) ao (by rw [ae];exact ab) ag hH λD' w' vb pl h1 h2 h3 h5=>Y w' D' (vb,pl) (λj hj=>?_) ⟨λh=>(by rw [h4.2] at h;cases h),λ_=>⟨h1,h2,h3,h5⟩⟩
   have n4:¬l.getD 4 false=true:=by rw [h4.1];simp
   have n5:¬l.getD 5 false=true:=λh=>n4 (J.clo 5 4 rfl h)
   match j,hj with
   |0,_=>rfl
   |1,_=>rfl
   |2,_=>rfl
   |3,_=>rfl
   |4,h=>exact absurd h n4
   |5,h=>exact absurd h n5
   |6,h=>exact absurd (J.clo 6 5 rfl h) n5
   |7,h=>exact absurd (J.clo 7 5 rfl h) n5
   |8,h=>exact absurd (J.clo 6 5 rfl (J.clo 8 6 rfl h)) n5
   |9,h=>exact absurd (J.clo 7 5 rfl (J.clo 9 7 rfl h)) n5
   |j+10,_=>simp [ZC]
  |5,_=>
   obtain ⟨q,E⟩:=Cr.kL (.move (.tmp 47),none) R rfl
   exact go (by decide) E λt d=>by unfold execOp;simp only [q,I 4 47 rfl rfl];rfl
  |6,_=>
   obtain ⟨q,E⟩:=Cr.kL (.extract (.tmp 42) 0,none) R rfl
   exact go (by decide) E λt d=>by unfold execOp;simp only [q,I 5 42 rfl rfl];rfl
  |7,_=>
   obtain ⟨q,E⟩:=Cr.kL (.extract (.tmp 42) 1,none) R rfl
   exact go (by decide) E λt d=>by unfold execOp;simp only [q,I 5 42 rfl rfl];rfl
  |8,_=>
   obtain ⟨q,E⟩:=Cr.kL (.assign (.tmp 48),none) R rfl
   exact go (by decide) E λt d=>by unfold execOp;simp only [q,I 6 48 rfl rfl];rfl
  |9,_=>
   obtain ⟨q,E⟩:=Cr.kL (.assign (.tmp 49),none) R rfl
   exact go (by decide) E λt d=>by unfold execOp;simp only [q,I 7 49 rfl rfl];rfl
end
section
variable {Post:Eh} {D:Nat->Prop} {w:World} {c:Cf} {ps:List PU} {xa:Option Addr} {vc:Nat} {ct:Int}
theorem TA (rd:Cr.ReadW) (h1:-9223372036854775808<=ct) (h2:ct<=9223372036854775807) (bz:Tryz.prog.globals.size<=w.heap.size) (Y:lN w (.slice xa ps.length vc) ps) (au:ps.length<=4294967296) (hH:pV w)
  (aj:∀D' w' y,kF (λ_=>False) w w'->WP (qe Tryz.prog.funcs D') w' y->Keep (qe Tryz.prog.funcs D') Post y->Post.post (.bool true) y):
  Wq D Post [] ((base 5).at { tmps:=#[.agg (jI c),.slice xa ps.length vc,.int .i64 ct]++Array.replicate 74 undef,defers:=[] } [.code (.seq DW (.seq Ea (.seq Em (.seq DV (.seq yX (.seq EZ (.seq EL Qc)))))))]) [] w:=by
 simp only [cO,bZ,dN,cZ,dM,dH]
 have fin:∀(D':Nat->Prop) (a':Act) (w':World) (todo:List Item),a'.tmps[6]? =some (.bool true)->a'.defers=[]->kF (λ_=>False) w w'->Wq D' Post [] { (base 5).at a' todo with mode:=.returning } [] w':=λD' a' w' todo h6 hd hc=>
  Wq.last (v:=.bool true) (fn:=Tryz.f5) rfl hd rfl Tryz.func5 (by kernel_rfl) (λw=>by
   have:a'.tmps[6]? =_:=h6
   simp [results,Tryz.results5,go_sem,Frame.at,this]) (λw=>by simp [results,Tryz.results5,go_sem]) (aj D' w' · hc)
 refine Wq.seq (Wq.walk λt d Q hN _=>Hm.Y4 c _ ct _ (hN _ _ (Wq.same (y:=w.alloc (.cells (jI c) 24)) (λ_ _=>rfl) (Wq.seq ?_))))
 rw [show (on w t d).heap.size=w.heap.size from rfl]
 obtain ⟨w1,af⟩:∃w1,w1=w.alloc (.cells (jI c) 24):=⟨_,rfl⟩
 have ak:kF (λ_=>False) w w1:=um (by rw [af])
 have aw:w1.heap[w.heap.size]? =some (.cells (jI c) 24 (0,0)):=by rw [af];exact heap_alloc_new _ _
 have cf:∀{v:World},kF (λ_=>False) w1 v->v.heap[w.heap.size]? =some (.cells (jI c) 24 (0,0)):=λh=>(h.block _ (jE aw) (λe=>e)).trans aw
 rw [<-af]
 have s1:=ak.size
 obtain ⟨r1,a0⟩:=SG
 rw [a0]
 refine Wq.region ?_
 rw [IE]
 obtain ⟨y0,ay,bh,bb,a1⟩:∃o,Ut[0]? =some o/\o.op=.call { callee:=.value (.func 21),args:=#[],argTypes:=#[] }/\o.dst=some 15/\o.guard=none:=⟨_,rfl,rfl,rfl,rfl⟩
 refine UG rd ay (Cr.kG a1) bh (by omega) (hH.kept ak) λD2 w2 ai=>?_
 rw [bb]
 have I:=ak.trans ai (λ_ _ e=>e)
 have a4:=cf ai
 have s2:=I.size
 simp only [Act.put,bH,dJ,dI]
 refine Wq.zF (.assign (.tmp 15)) (some 7) (.bool true) w2 rfl (λt d o h=>by unfold execOp;simp only [h];rfl) (Wq.done ?_)
 simp only [Act.put,bH,dJ,dI]
 refine Wq.seq (Wq.walk λt d Q hN _=>Hm.Y2 _ (hN _ _ (Wq.same (y:=w2) (λ_ _=>rfl) (Wq.seq ?_))))
 obtain ⟨r4,bd⟩:=UU
 rw [bd]
 refine Wq.region ?_
 rw [Jz]
 refine Wq.zF (.load 24 (.tmp 3)) (some 19) (.agg (jI c)) w2 rfl (λt d o h=>by
  have c:=su (w:=on w2 t d) a4
  have k0:=c 0
  have k1:=c 1
  have k2:=c 2
  have k3:=c 3
  have k4:=c 4
  have k5:=c 5
  have k6:=c 6
  unfold execOp
  simp only [h]
  simp [go_sem,Act.eval,k0,k1,k2,k3,k4,k5,k6,jI]) ?_
 simp only [Act.put,bH,dJ,dI]
 refine Wq.zF (.move (.tmp 1)) (some 20) (.slice xa ps.length vc) w2 rfl (λt d o h=>by unfold execOp;simp only [h];rfl) ?_
 simp only [Act.put,bH,dJ,dI]
 obtain ⟨y2,a6,a9,a8,bg⟩:∃o,Rf[2]? =some o/\o.op=.call { callee:=.value (.func 12),args:=#[.tmp 19,.tmp 20],argTypes:=#[24,25] }/\o.dst=some 21/\o.guard=none:=⟨_,rfl,rfl,rfl,rfl⟩
 refine Kr rd (c:=c) (ps:=ps) a6 (Cr.kG bg) a9 rfl rfl (by omega) (rW Y I) au (hH.kept I) λD4 w4 va pl ab am R aq=>?_
 rw [a8]
 have E:=I.trans aq (λ_ _ e=>e)
 have s4:=E.size
 obtain ⟨e,he⟩:∃e,e=(Dv.all c (ps.map Prod.fst)).1:=⟨_,rfl⟩
 rw [<-he]
 simp only [Act.put,bH,dJ,dI]
 refine Wq.zF (.move (.tmp 21)) (some 18) (.tuple #[va,.int .i64 e]) w4 rfl (λt d o h=>by unfold execOp;simp only [h];rfl) ?_
 simp only [Act.put,bH,dJ,dI]
 refine Wq.zF (.extract (.tmp 18) 0) (some 22) va w4 rfl (λt d o h=>by unfold execOp;simp only [h];rfl) ?_
 simp only [Act.put,bH,dJ,dI]
 refine Wq.zF (.extract (.tmp 18) 1) (some 23) (.int .i64 e) w4 rfl (λt d o h=>by unfold execOp;simp only [h];rfl) ?_
 simp only [Act.put,bH,dJ,dI]
 refine Wq.zF (.assign (.tmp 22)) (some 8) va w4 rfl (λt d o h=>by unfold execOp;simp only [h];rfl) ?_
 simp only [Act.put,bH,dJ,dI]
 refine Wq.zF (.assign (.tmp 23)) (some 9) (.int .i64 e) w4 rfl (λt d o h=>by unfold execOp;simp only [h];rfl) (Wq.done ?_)
 simp only [Act.put,bH,dJ,dI]
 refine Wq.seq ?_
 by_cases an:Dv.jQ c=true/\Dv.jS (ps.map Prod.fst)=true
 ·obtain ⟨J,ac⟩:=an
  have bj:1<=ps.length/\ps.length<=60:=by
   have:=Dv.kJ ac
   rw [aU] at this
   exact ⟨this.1,this.2.1⟩
  obtain rfl:e=0:=by rw [he];unfold Dv.all;rw [if_neg (by simp [J]),if_neg (by simp [ac])]
  refine Wq.walk λt d Q hN _=>Hm.YW _ (hN _ _ (Wq.same (y:=w4) (λ_ _=>rfl) (Wq.seq ?_)))
  refine Wq.walk λt d Q hN _=>Hm.YD ct xa ps.length vc (by omega) au h1 h2 _ (λtm z1 z2 z3 z4 z5=>hN _ _ (Wq.same (y:=w4) (λ_ _=>rfl) (Wq.seq ?_)))
  have du:=Hm.TR (c:=ct) (n:=(ps.length:Int)) (by omega)
  obtain ⟨m,hm⟩:∃m:Nat,(m:Int)=1+Hm.pk ct ps.length:=⟨(1+Hm.pk ct ps.length).toNat,by omega⟩
  rw [<-hm] at z5
  have ae:1<=m/\m<=ps.length:=by omega
  have ah:=rW Y E
  obtain ⟨g,off,c5,ev,a5,_,_⟩:=Y.1.pos (by omega)
  simp only [Value.slice.injEq] at ev
  obtain ⟨rfl,_,rfl⟩:=ev
  have ao:(ps.take m).length=m:=by rw [aZ];omega
  have ap:=Tn (n:=m) ah ae.2
  rw [ao] at ap
  obtain ⟨r8,a3⟩:=QK
  rw [a3]
  have ba:(ps.take m).map Prod.fst=(ps.map Prod.fst).take m:=List.map_take ..
  refine Vt (ps:=ps.take m) (c:=c) (va0:=va) (n:=m) rd z1 rfl z2 z3 z4 z5 (cf (ai.trans aq (λ_ _ e=>e))) ae.2 a5 ao (by omega) (by omega) ap (hH.kept E) ?_
  intro a7 w7 D7 vb ax s7 d7 t8 t10 ag aa z
  rw [ba] at aa z
  obtain ⟨r,q1,q2,q3,q4⟩:=Dv.Ov ac J ae.1 (by rw [aU];exact ae.2)
  rw [q4] at aa
  obtain ⟨di,df⟩:=a7
  dsimp only at s7 d7 t8 t10 ag aa
  subst d7
  obtain ⟨u0,u1,u2,u3,u4,u5,u6,u7,u8,u9,b3,de,b1,ck,c9,cq,bq,cz,br,bw,b4,dk,bv,bu,cp,bm,db,dd,dm,bn,dl,cm,dv,ce,b6,c1,dh,cg,cv,cj,c3,cw,b9,c6,cy,c2,cu,bo,bx,b2,cc,b8,bk,cd,dx,cl,ci,dq,b7,dw,cb,dg,c4,dt,dy,cx,cn,dj,b5,bp,dr,b0,bs,ca,cr,bl,co,rfl⟩:=Hm.aaU s7
  simp only [dY,dX,dQ,aC] at t8 t10 ag aa
  subst t8 t10 ag aa
  have lo:∀{u v:World} {x:Value} {q:List Hm.PL},v.heap=u.heap->uQ u x q->uQ v x q:=λe h=>Nk h (Yq e)
  refine Wq.walk λt d Q _ hR=>Hm.aaM _ _ pl ax (m:Int) r _ (lo (u:=w7) rfl (Nk (Nh ab am) z.jR)) (lo (u:=w7) rfl (Nh z.row z.strs)) (F5 ab) (by rw [R,z.log];exact q1) (λx hx=>by have:=q2 x hx;omega) (λx hx=>by rw [z.log] at hx;have:=q3 x hx;omega) (λtm w8 h6 a2=>hR _ _ λtodo=>fin D7 _ w8 todo h6 rfl ?_)
  exact (E.trans z.jR (λ_ _ e=>e)).trans (((Hm.jL.below a2 jC (λ_=>False)).h).heaps rfl rfl) (λ_ _ e=>e)
 ·have av:∃e,(e=1\/e=2)/\Dv.all c (ps.map Prod.fst)=(e,[]):=by
   unfold Dv.all
   by_cases J:Dv.jQ c=false
   ·exact ⟨1,.inl rfl,by rw [if_pos J]⟩
   ·have ac:Dv.jS (ps.map Prod.fst)=false:=by
     cases h:Dv.jS (ps.map Prod.fst) with
     |false=>rfl
     |true=>exact absurd ⟨by simpa using J,h⟩ an
    exact ⟨2,.inr rfl,by rw [if_neg J,if_pos ac]⟩
  obtain ⟨e',az,ar⟩:=av
  rw [ar] at he R
  obtain rfl:pl=[]:=by simpa using R
  obtain ⟨ya,yc,rfl⟩:=ab.slice
  exact Wq.walk λt d Q _ hR=>Hm.JZ ya yc e (by rw [he];exact az) _ (λtm h6=>hR _ _ λtodo=>fin D4 _ _ todo h6 rfl (E.heaps rfl rfl))
end
end
end Pa
section
open Go.ChangeShapes Go.WideShapes Go.ChangeAt Go.RowKit
theorem Ld:Tryz.prog.cellsOf 4=1:=by kernel_rfl
theorem Sj:Tryz.prog.cellsOf 5=1:=by kernel_rfl
theorem Ol:Tryz.prog.globalNamed "tributary/item.heads"=some 1:=by kernel_rfl
theorem FZ:(Tryz.prog.globals[ 1 ]?).map (·.type)=some 306:=by kernel_rfl
theorem Ia:Tryz.prog.cellsOf 306=6:=by kernel_rfl
theorem KL:Tryz.prog.cellsOf 280=3:=by kernel_rfl
theorem UM {W:World} (h:laidMet Tryz.prog [("tributary/item.heads",Rows.laid_tributary_item_heads)] W):kU W:=by
 obtain ⟨ps,⟨g',t',cs,aa,p,q,R,Y,I,hd,_,_⟩,_⟩:=h
 obtain rfl:=eP (Ol.symm.trans R)
 obtain rfl:=eP (FZ.symm.trans Y)
 obtain ⟨xs,m,_,hx,z,J,hi⟩:=DataW.trod_array Tryz.underlying306 hd
 rw [Ia] at z
 have E:=λi=>World.var?_cell Ol I i
 obtain ⟨cs⟩:=cs
 match cs,z,xs,J with
 |[a0,a1,a2,a3,a4,a5],_,[x0,x1],_=>
 have h0:=hi 0 (by omega)
 have h1:=hi 1 (by omega)
 simp only [KL] at h0 h1
 simp only [Rows.laid_tributary_item_heads,dA,DataW.agg.injEq,dW,fG,List.cons.injEq,and_true] at hx
 obtain ⟨y0,y1,y2,n,hy,_,k0,k1,k2⟩:=Go.Deep.trod_struct3 Tryz.underlying280 h0
 obtain ⟨z0,z1,z2,n',hz,_,l0,l1,l2⟩:=Go.Deep.trod_struct3 Tryz.underlying280 h1
 simp only [Ld,Sj] at k0 k1 k2 l0 l1 l2
 obtain ⟨b0,e0,rfl⟩:=DataW.trod_bool Tryz.underlying4 k0
 obtain ⟨b1,e1,rfl,_⟩:=DataW.trod_int Tryz.underlying5 k1
 obtain ⟨b2,e2,rfl,_⟩:=DataW.trod_int Tryz.underlying5 k2
 obtain ⟨b3,e3,rfl⟩:=DataW.trod_bool Tryz.underlying4 l0
 obtain ⟨b4,e4,rfl,_⟩:=DataW.trod_int Tryz.underlying5 l1
 obtain ⟨b5,e5,rfl,_⟩:=DataW.trod_int Tryz.underlying5 l2
 simp at e0 e1 e2 e3 e4 e5
 subst e0 e1 e2 e3 e4 e5
 subst hy hz
 simp at hx
 obtain ⟨⟨⟨rfl,rfl,rfl⟩,rfl,rfl,rfl⟩,_⟩:=hx
 exact ⟨⟨E 0,E 1,E 2⟩,E 3,E 4,E 5⟩
end
namespace Pa
open Go Go.Conc Go.ChangeShapes Go.WideShapes Go.ChangeAt Go.RowKit
open Hm (PU rV lN oG wP pJ Rd nT xC jI kF)
open Dv (Tx U Cf)
open Po hiding U H B IT PR NB
section
variable {t:TypeId} {f0 f1 f2 f3:Field} {sp:Nat->Bool} {b:Nat} {D:Nat->Prop} {v:Value}
theorem JI:Tryz.prog.cellsOf 68=3:=by kernel_rfl
theorem yS:Tryz.prog.cellsOf 42=4:=by kernel_rfl
theorem Eo:Tryz.prog.cellsOf 9=1:=by kernel_rfl
theorem Le:Tryz.prog.cellsOf 40=1:=by kernel_rfl
theorem Qu:Tryz.prog.cellsOf 39=1:=by kernel_rfl
theorem ET:Tryz.prog.cellsOf 3=1:=by kernel_rfl
theorem Ep:Tryz.prog.cellsOf 22=1:=by kernel_rfl
theorem Gn:Tryz.prog.cellsOf 24=7:=by kernel_rfl
theorem Ug {H:Type}:∀d:DataW H,1<=Rows.uptoBulk d
 |.lit l=>by cases l<;>simp [Rows.uptoBulk]
 |.nil=>by simp [Rows.uptoBulk]
 |.ptr d=>by simp [Rows.uptoBulk]
 |.slice a b=>by simp [Rows.uptoBulk]
 |.agg a=>by simp [Rows.uptoBulk]
 |.iface a d=>by simp [Rows.uptoBulk]
 |.map m=>by simp [Rows.uptoBulk]
 |.held h=>by simp [Rows.uptoBulk]
theorem Hg {H:Type}:∀l:List (DataW H),l.length<=Rows.uptoBulkAll l
 |[]=>by simp
 |d::l=>by
  have:=Ug d
  have:=Hg l
  simp only [Rows.uptoBulkAll,aN]
  omega
theorem Jg {H:Type} {d:DataW H}:∀{l:List (DataW H)},d∈l->Rows.uptoBulk d<=Rows.uptoBulkAll l
 |[],h=>by cases h
 |e::l,h=>by
  simp only [Rows.uptoBulkAll]
  rcases bV.1 h with rfl|h
  ·omega
  ·have:=Jg h;omega
theorem N8 {α:Type} {Q:Nat->α->Prop}:∀n,(∀i,i < n->∃z,Q i z)->∃l:List α,l.length=n/\∀i z,l[i]? =some z->Q i z
 |0,_=>⟨[],rfl,λi z h=>by simp at h⟩
 |n+1,h=>by
  obtain ⟨l,J,I⟩:=N8 n λi E=>h i (by omega)
  obtain ⟨z,Y⟩:=h n (by omega)
  refine ⟨l++[z],by simp [J],λi y q=>?_⟩
  rcases fQ i l.length with E|E
  ·rw [bP E] at q
   exact I i y q
  ·rw [bK E] at q
   have R:i - l.length=0:=by
    have:=(aF.1 q).1
    simp at this
    omega
   rw [R] at q
   simp at q
   subst q
   rw [show i=n from by omega]
   exact Y
section
variable {H:Type} {enc:TypeId×Value->H} {W:World} {held:Bool}
theorem add_add (a:Addr) (hs:a.spot=none) (n:Nat):a.add n=⟨a.block,a.off+n,none⟩:=by
 obtain ⟨b,o,s⟩:=a
 simp only at hs
 subst hs
 unfold Addr.add
 split
 ·rename_i h;subst h;rfl
 ·rfl
theorem FV {e:TypeId} {k fuel:Nat} {cs:List Value} {x:DataW H×List MemPlace} (ht:Tryz.prog.underlying t=some (.slice e)) (hk:Tryz.prog.cellsOf e=k) (I:0 < k)
  (h:DataW.trod enc Tryz.prog W 0 (λ_=>true) held fuel t cs=some x) {α:Type} (f:α->List Value) (hf:∀a,(f a).length=k) (B:α->DataW H->Prop)
  (af:∀n cs' y,DataW.trod enc Tryz.prog W 0 (λ_=>true) held n e cs'=some y->∃a,cs'=f a/\B a y.1):
  ∃(v:Value) (l:List α),cs=[v]/\Rd W k v l.length (l.flatMap f)/\l.length<=Rows.uptoBulk x.1/\(∃a c,v=.slice a l.length c)/\∀a∈l,∃d,B a d/\Rows.uptoBulk d<=Rows.uptoBulk x.1:=by
 rcases Go.Deep.open_slice ht h with ⟨rfl,rfl⟩|⟨a,len,cap,m,n,D,Pl,rfl,hb,ah,ak,hm,rfl,hx⟩
 ·exact ⟨_,[],rfl,Hm.Rd.nil _ _ _ _,by simp,⟨none,0,rfl⟩,λa h=>by cases h⟩
 simp only [if_true] at hm
 subst hm
 rw [hk] at hx
 have E:0 < m->a.spot=none:=λh0=>by
  obtain ⟨cs',h1,_⟩:=hx 0 h0
  obtain ⟨_,J,hc⟩:=World.cells?_some h1
  have R:=hc 0 I
  rw [aG (by omega)] at R
  unfold World.cell? at R
  split at R
  ·split at R
   ·cases R
   ·rename_i ae
    have e:(a.add (0 * k)).add 0=a:=by simp [Addr.add]
    rw [e] at ae
    simpa using ae
  ·cases R
 have ab:∀i,i < m->∃(z:α) (cs':List Value),cs'.length=k/\(∀j,j < k->W.cell? ⟨a.block,a.off+i * k+j,none⟩=cs'[j]?)/\cs'=f z/\B z (D i):=by
  intro i hi
  obtain ⟨cs',h1,h2⟩:=hx i hi
  obtain ⟨_,J,hc⟩:=World.cells?_some h1
  obtain ⟨z,Y,hB⟩:=af n cs' _ h2
  have hs:=E (by omega)
  refine ⟨z,cs',J,λj hj=>?_,Y,hB⟩
  have:=hc j hj
  rw [add_add a hs,add_add _ rfl] at this
  exact this
 obtain ⟨l,J,hq⟩:=N8 (α:=α) (Q:=λi z=>∃cs':List Value,cs'.length=k/\(∀j,j < k->W.cell? ⟨a.block,a.off+i * k+j,none⟩=cs'[j]?)/\cs'=f z/\B z (D i)) len λi hi=>ab i (by omega)
 have q:Rows.uptoBulkAll ((List.range len).map D)<=Rows.uptoBulk (H:=H) (.slice ((List.range len).map D) ((List.range (m - len)).map λj=>D (len+j))):=by
  simp only [Rows.uptoBulk]
  omega
 refine ⟨_,l,rfl,?_,?_,⟨some a,m,by rw [J]⟩,λz Y=>?_⟩
 ·rw [J]
  have key:∀j u,(l.flatMap f)[j]? =some u->W.cell? ⟨a.block,a.off+j,none⟩=some u:=λj u hj=>by
   have aa:=(aF.1 hj).1
   rw [Hm.nJ f k hf,J] at aa
   have hi:j / k < len:=(Nat.div_lt_iff_lt_mul I).2 aa
   have hr:j % k < k:=Nat.mod_lt _ I
   have ag:j=j / k * k+j % k:=by have:=Nat.div_add_mod j k;rw [Nat.mul_comm] at this;omega
   have Y:l[j / k]? =some l[j / k]:=aG (by omega)
   obtain ⟨cs',c1,c2,c3,_⟩:=hq _ _ Y
   have ac:=Hm.flat_get f k hf l (j / k) (j % k) _ Y hr
   rw [<-ag,hj,<-c3] at ac
   rw [show a.off+j=a.off+j / k * k+j % k by omega,c2 (j % k) hr]
   exact ac.symm
  refine ⟨by rw [Hm.nJ f k hf,J],some a,m,rfl,ah,λh0=>⟨a.block,a.off,?_,?_,key⟩⟩
  ·have hs:=E (by omega)
   obtain ⟨b,o,sp⟩:=a
   simp only at hs
   subst hs
   rfl
  ·have ai:0 < (l.flatMap f).length:=by rw [Hm.nJ f k hf,J];exact Nat.mul_pos h0 I
   have:=key 0 _ (aG ai)
   unfold World.cell? at this
   split at this
   ·exact (dR.1 ‹_›).1
   ·cases this
 ·rw [J]
  have:=Hg ((List.range len).map D)
  rw [aU,List.length_range] at this
  exact aW this q
 ·obtain ⟨i,hi⟩:=jw.1 Y
  obtain ⟨_,_,_,_,hB⟩:=hq i z hi
  have aj:=(aF.1 hi).1
  exact ⟨D i,hB,aW (Jg (bC.2 ⟨i,gI.2 (by omega),rfl⟩)) q⟩
end
section
variable {H:Type} {enc:TypeId×Value->H} {W:World} {held:Bool} {fuel:Nat} {cs:List Value} {x:DataW H×List MemPlace}
theorem Xf (s:ByteArray):Value.string s=nT s.data.toList:=by simp [nT]
theorem FI {k:IntKind} {n:Int} (hk:k=.u32) (h:(Lit.int k n).wf=true):∃m:Nat,n=m:=by
 subst hk
 refine ⟨n.toNat,?_⟩
 have q:IntKind.u32.min=0:=rfl
 simp only [Lit.wf,bY,decide_eq_true_eq] at h
 omega
theorem open_strs (h:DataW.trod enc Tryz.prog W 0 (λ_=>true) held fuel 40 cs=some x):
  ∃v l,cs=[v]/\pJ W v l/\l.length<=Rows.uptoBulk x.1:=by
 obtain ⟨v,l,z,h2,h3,_,_⟩:=FV Tryz.underlying40 Eo (by omega) h (λs=>[nT s]) (λ_=>rfl) (λ_ _=>True) (λn cs' y q=>by
  obtain ⟨s,rfl,rfl,_⟩:=DataW.trod_string Tryz.underlying9 q
  exact ⟨s.data.toList,by rw [<-Xf],trivial⟩)
 refine ⟨v,l,z,?_,h3⟩
 have e:∀l:List (List UInt8),l.flatMap (λs=>[nT s])=l.map nT:=λl=>by induction l with|nil=>rfl|cons a l ih=>simp [ih]
 unfold pJ
 rw [<-e l]
 exact h2
theorem Tj (h:DataW.trod enc Tryz.prog W 0 (λ_=>true) held fuel 39 cs=some x):
  ∃v l,cs=[v]/\wP W v l/\l.length<=Rows.uptoBulk x.1:=by
 obtain ⟨v,l,I,h2,h3,_,_⟩:=FV Tryz.underlying39 JI (by omega) h xC (λ_=>rfl) (λ_ _=>True) (λn cs' y hy=>by
  obtain ⟨y0,y1,y2,n',rfl,q,J,I,h2⟩:=Go.Deep.trod_struct3 Tryz.underlying68 hy
  rw [JI] at q
  match cs',q with
  |[c0,c1,c2],_=>
  simp only [Ep,Eo] at J I h2
  obtain ⟨m0,z,rfl,w0⟩:=DataW.trod_int Tryz.underlying22 J
  obtain ⟨m1,E,rfl,w1⟩:=DataW.trod_int Tryz.underlying22 I
  obtain ⟨s,hs,rfl,_⟩:=DataW.trod_string Tryz.underlying9 h2
  simp at z E hs
  subst z E hs
  obtain ⟨Y,rfl⟩:=FI rfl w0
  obtain ⟨R,rfl⟩:=FI rfl w1
  exact ⟨⟨Y,R,s.data.toList⟩,by simp [xC],trivial⟩)
 exact ⟨v,l,I,h2,h3⟩
theorem trod_struct4 (ht:Tryz.prog.underlying t=some (.struct #[f0,f1,f2,f3])) (h:DataW.trod enc Tryz.prog W b sp held fuel t cs=some x):
  ∃q E J z n,x=(.agg [q.1,E.1,J.1,z.1],q.2++(E.2++(J.2++z.2)))/\cs.length=Tryz.prog.cellsOf t/\DataW.trod enc Tryz.prog W b sp held n f0.type ((cs.drop f0.offset).take (Tryz.prog.cellsOf f0.type))=some q/\
   DataW.trod enc Tryz.prog W b sp held n f1.type ((cs.drop f1.offset).take (Tryz.prog.cellsOf f1.type))=some E/\DataW.trod enc Tryz.prog W b sp held n f2.type ((cs.drop f2.offset).take (Tryz.prog.cellsOf f2.type))=some J/\DataW.trod enc Tryz.prog W b sp held n f3.type ((cs.drop f3.offset).take (Tryz.prog.cellsOf f3.type))=some z:=by
 obtain ⟨xs,n,_,rfl,Y,I,R⟩:=DataW.trod_struct ht h
 match xs,I with
 |[q,E,J,z],_=>exact ⟨q,E,J,z,n,by simp,Y,by simpa using R 0 f0 rfl,by simpa using R 1 f1 rfl,by simpa using R 2 f2 rfl,by simpa using R 3 f3 rfl⟩
theorem Uu (h:DataW.trod enc Tryz.prog W 0 (λ_=>true) held fuel 25 cs=some x) (hb:Rows.uptoBulk x.1<=4294967296):
  ∃v ps a c,cs=[v]/\v=.slice a ps.length c/\lN W (.slice a ps.length c) ps/\ps.length<=4294967296:=by
 obtain ⟨v,l,I,h2,h3,⟨a,c,hv⟩,h4⟩:=FV Tryz.underlying25 yS (by omega) h rV (λ_=>rfl) (λp d=>Rows.uptoBulk d<=4294967296->oG W p.1 p.2.1 p.2.2) (λn cs' y hy=>by
  obtain ⟨y0,y1,y2,y3,n',rfl,q,J,I,h2,h3⟩:=trod_struct4 Tryz.underlying42 hy
  rw [yS] at q
  match cs',q with
  |[c0,c1,c2,c3],_=>
  simp only [ET,Qu,Le] at J I h2 h3
  obtain ⟨m0,z,rfl,w0⟩:=DataW.trod_int Tryz.underlying3 J
  obtain ⟨m1,E,rfl,w1⟩:=DataW.trod_int Tryz.underlying3 I
  obtain ⟨vt,lt,R,t2,b2⟩:=Tj h2
  obtain ⟨vl,ll,Y,t3,b3⟩:=open_strs h3
  simp at z E R Y
  subst z E R Y
  refine ⟨(⟨m0,m1,lt,ll⟩,c2,c3),by simp [rV],λhd=>⟨t2,t3,?_,?_⟩⟩
  ·simp only [Rows.uptoBulk,Rows.uptoBulkAll] at hd;simp only;omega
  ·simp only [Rows.uptoBulk,Rows.uptoBulkAll] at hd;simp only;omega)
 refine ⟨v,l,a,c,I,hv,⟨by rw [<-hv];exact h2,λp hp=>?_⟩,by omega⟩
 obtain ⟨d,hB,hd⟩:=h4 p hp
 exact hB (by omega)
theorem FH {z E I:Field} (ht:Tryz.prog.underlying t=some (.struct #[f0,f1,f2,f3,z,E,I])) (h:DataW.trod enc Tryz.prog W b sp held fuel t cs=some x):
  ∃R y1 y2 y3 y4 y5 Y n,x.2=R.2++(y1.2++(y2.2++(y3.2++(y4.2++(y5.2++(Y.2))))))/\cs.length=Tryz.prog.cellsOf t/\DataW.trod enc Tryz.prog W b sp held n f0.type ((cs.drop f0.offset).take (Tryz.prog.cellsOf f0.type))=some R/\DataW.trod enc Tryz.prog W b sp held n f1.type ((cs.drop f1.offset).take (Tryz.prog.cellsOf f1.type))=some y1/\DataW.trod enc Tryz.prog W b sp held n f2.type ((cs.drop f2.offset).take (Tryz.prog.cellsOf f2.type))=some y2/\DataW.trod enc Tryz.prog W b sp held n f3.type ((cs.drop f3.offset).take (Tryz.prog.cellsOf f3.type))=some y3/\DataW.trod enc Tryz.prog W b sp held n z.type ((cs.drop z.offset).take (Tryz.prog.cellsOf z.type))=some y4/\DataW.trod enc Tryz.prog W b sp held n E.type ((cs.drop E.offset).take (Tryz.prog.cellsOf E.type))=some y5/\DataW.trod enc Tryz.prog W b sp held n I.type ((cs.drop I.offset).take (Tryz.prog.cellsOf I.type))=some Y:=by
 obtain ⟨xs,n,_,rfl,hl,J,q⟩:=DataW.trod_struct ht h
 match xs,J with
 |[R,y1,y2,y3,y4,y5,Y],_=>exact ⟨R,y1,y2,y3,y4,y5,Y,n,by simp,hl,by simpa using q 0 f0 rfl,by simpa using q 1 f1 rfl,by simpa using q 2 f2 rfl,by simpa using q 3 f3 rfl,by simpa using q 4 z rfl,by simpa using q 5 E rfl,by simpa using q 6 I rfl⟩
theorem IY (h:DataW.trod enc Tryz.prog W b sp held fuel 24 cs=some x):∃c:Cf,cs=(jI c).toList/\x.2=[]:=by
 obtain ⟨y0,y1,y2,y3,y4,y5,y6,n,q,hl,Y,z,k2,J,k4,k5,k6⟩:=FH Tryz.underlying24 h
 rw [Gn] at hl
 match cs,hl with
 |[c0,c1,c2,c3,c4,c5,c6],_=>
 simp only [Ep,ET] at Y z k2 J k4 k5 k6
 obtain ⟨m0,E,rfl,w0⟩:=DataW.trod_int Tryz.underlying22 Y
 obtain ⟨m1,e1,rfl,w1⟩:=DataW.trod_int Tryz.underlying22 z
 obtain ⟨m2,e2,rfl,w2⟩:=DataW.trod_int Tryz.underlying3 k2
 obtain ⟨m3,e3,rfl,w3⟩:=DataW.trod_int Tryz.underlying3 J
 obtain ⟨m4,e4,rfl,w4⟩:=DataW.trod_int Tryz.underlying3 k4
 obtain ⟨m5,I,rfl,w5⟩:=DataW.trod_int Tryz.underlying3 k5
 obtain ⟨m6,R,rfl,w6⟩:=DataW.trod_int Tryz.underlying3 k6
 simp at E e1 e2 e3 e4 I R
 subst E e1 e2 e3 e4 I R
 obtain ⟨q0,rfl⟩:=FI rfl w0
 obtain ⟨q1,rfl⟩:=FI rfl w1
 exact ⟨⟨q0,q1,m2,m3,m4,m5,m6⟩,rfl,q⟩
end
theorem Zv:((((begin Tryz.prog (λ_ _=>0) default).world.heap[1]?).bind Obj.row?).map (·.2))=some 306:=by kernel_rfl
theorem Ub:2<=Tryz.prog.globals.size:=of_decide_eq_true (by kernel_rfl)
theorem Kw:Tryz.prog.globals.size < (begin Tryz.prog (λ_ _=>0) default).world.heap.size:=of_decide_eq_true (by kernel_rfl)
theorem Ze {W:World} (h:W.ShapedOpen Tryz.prog):Tryz.prog.globals.size<=W.heap.size:=by
 obtain ⟨o,_,q,_⟩:=h.2 _ jC Kw
 have:=(jE q)
 omega
theorem SQ {f:FuncId} {fn:Func} {c:Code} {z:Array Value} (q:Tryz.prog.funcs[f]? =some fn) (E:BD f=true) (I:fn.body=some c):rQ (qe Tryz.prog.funcs D) ((base f).at ⟨z,[]⟩ [.code c]):=by
 refine ⟨λi J=>?_,λd hd=>(by cases hd),rfl⟩
 obtain rfl:i=.code c:=by simpa [Frame.at] using J
 rewrite [Dt]
 have:=(NS E q).2
 rw [I] at this
 exact this
section
variable {W:World}
theorem nV (a:Addr):(hush W).cell? a=W.cell? a:=by
 unfold World.cell? hush
 rw [iE]
 cases h:W.heap[a.block]? with
 |none=>rfl
 |some o=>cases o<;>rfl
theorem Gv {s n:Nat} {xs:List Value} (h:Rd W s v n xs):Rd (hush W) s v n xs:=by
 obtain ⟨z,a,cap,e,h2,h3⟩:=h
 refine ⟨z,a,cap,e,h2,λE=>?_⟩
 obtain ⟨g,off,J,q,R⟩:=h3 E
 exact ⟨g,off,J,by simpa [hush] using q,λj u I=>(nV _).trans (R j u I)⟩
theorem UQ {ps:List PU} (h:lN W v ps):lN (hush W) v ps:=⟨Gv h.1,λp hp=>⟨Gv (h.2 p hp).1,Gv (h.2 p hp).2.1,(h.2 p hp).2.2⟩⟩
theorem JK (h:W.ShapedOpen Tryz.prog) (q:kU W):pV (hush W):=by
 refine ⟨⟨⟨(nV _).trans q.1.1,(nV _).trans q.1.2.1,(nV _).trans q.1.2.2⟩,⟨(nV _).trans q.2.1,(nV _).trans q.2.2.1,(nV _).trans q.2.2.2⟩⟩,?_⟩
 have:=Zv
 cases e:(((begin Tryz.prog (λ_ _=>0) default).world.heap[1]?).bind Obj.row?) with
 |none=>rw [e] at this;cases this
 |some z=>
  obtain ⟨zero,t⟩:=z
  rw [e] at this
  simp only [bQ,aC] at this
  obtain ⟨cs,E,_⟩:=h.1 1 zero t (by have:=Ub;omega) e
  subst this
  exact ⟨_,_,_,Nj E rfl,by decide,by decide,by decide,by decide,by decide⟩
theorem O7 {post:Value->World->Prop} {w' y:World} (J:kF (λ_=>False) (hush W) w') (hw:WP (qe Tryz.prog.funcs D) w' y) (hk:Keep (qe Tryz.prog.funcs D) ⟨xY W,W,post⟩ y):Go.RowKit.Below W.heap.size W { y with tape:=W.tape }:=by
 refine ⟨hk.os,rfl,hk.output,hk.size,λk E=>?_⟩
 by_cases z:xY W k
 ·exact (hk.dead k z).2
 ·have R:¬(qe Tryz.prog.funcs D).D k:=λh=>z (hk.old k h E)
  have Y:(hush W).heap.size=W.heap.size:=by simp [hush]
  have I:=(hw.out k R).trans (J.block k (by rw [Y];exact E) (λe=>e))
  refine I.trans ?_
  cases q:W.heap[k]? with
  |none=>rw [Array.getElem?_eq_none_iff] at q;omega
  |some o=>exact Nj q (Bool.eq_false_iff.2 λe=>z ⟨o,q,e⟩)
end
end
end Pa
end Go.Proofs.YtpibpdpedjinhaaGreatDoor
