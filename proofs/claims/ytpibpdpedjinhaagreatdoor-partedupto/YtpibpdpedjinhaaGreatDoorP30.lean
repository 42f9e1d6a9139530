import Derived.Test.YtpibpdpedjinhaaGreatDoorP29
set_option maxRecDepth 100000
set_option maxHeartbeats 8000000
set_option linter.unusedSimpArgs false
namespace Go.Proofs.YtpibpdpedjinhaaGreatDoor
namespace Hm
open Go.RowKit Go.Joins Go.Shelf
open Dv (U Cf Ba)
section
variable {a:Act}{d k:Nat}{v:Value}
noncomputable def qw:Array Oper:=match Tryz.f39.body with
 |some (.seq _ (.seq _ (.seq _ (.seq _ (.seq _ (.seq _ (.block _ (.rangeFunc _ _ _ (.block _ (.seq _ (.block _ (.rangeFunc _ _ _ (.block _ (.seq _ (.cond _ (.seq _ (.region _ ops _)) _)))))))))))))))=>ops
 |_=>#[]
theorem X4:∀q0 q1 q2 q3 q4 q5 q6 q7 q8 q9 q10:Bool,Region.ready .any qw #[q0,q1,q2,q3,q4,q5,q6,q7,q8,q9,q10]=[]->q10=true:=by decide+kernel
def Zy(q0 q1 q2 q3 q4 q5 q6 q7 q8 q9 q10:Bool)(i:Nat):Bool:=decide (i<11/\(i=2->q1=true)/\(i=3->q2=true)/\(i=4->q3=true/\q4=false)/\(i=6->q5=true/\q6=false)/\(i=7->q4=true/\q6=true/\q7=false)/\(i=8->q0=true)/\(i=9->q8=true)/\(i=10->q9=true/\q7=true/\q10=false))
theorem Zi:∀q0 q1 q2 q3 q4 q5 q6 q7 q8 q9 q10:Bool,(Region.ready .any qw #[q0,q1,q2,q3,q4,q5,q6,q7,q8,q9,q10]).all (Zy q0 q1 q2 q3 q4 q5 q6 q7 q8 q9 q10)=true:=by decide+kernel
theorem jD{u:Value}(z:d≠k)(h:a.tmps[k]? =some u):(a.put (some d) v).tmps[k]? =some u:=by rw[GI,if_neg z];exact h
theorem DU(hd:d<a.tmps.size):(a.put (some d) v).tmps[d]? =some v:=by rw[GI,if_pos rfl,if_pos hd]
theorem oM:(a.put (some d) v).tmps.size=a.tmps.size:=by unfold Act.put;simp
def bt(e d t:Nat)(ta:Option Addr)(tn tc p:Nat):List Value:=[.int .i64 e,.int .i64 d,.int .i64 t,.slice ta tn tc,.int .i64 p]
structure RB(W:World)(b2 b10 kb n:Nat)(vw:Value)(xs:List Value)(cs:Array Value)(e d t:Nat)(ta:Option Addr)(tn tc p:Nat):Prop where
 h2:W.heap[b2]? =some (.cells #[ptr kb] 93 (0,0))
 hk:W.heap[kb]? =some (.cells cs 137 (0,0))
 hw:cs[10]? =some vw
 h10:W.heap[b10]? =some (.cells (bt e d t ta tn tc p).toArray 150 (0,0))
 row:Row W 150 5 vw n xs
 ne:vw.ownBlock≠some b10
 len:n<4294967296
structure RI(W:World)(b2 b10 kb n:Nat)(vw:Value)(xs:List Value)(e d t:Nat)(ta:Option Addr)(tn tc p:Nat)(q0 q1 q2 q3 q4 q5 q6 q7 q8 q9 q10:Bool)(a:Act)(w:World):Prop where
 sz:a.tmps.size=93
 t2:a.tmps[2]? =some (ptr b2)
 t10:a.tmps[10]? =some (ptr b10)
 s0:q0=true->a.tmps[83]? =some (ptr kb)
 s1:q1=true->a.tmps[84]? =some (ptr kb)
 s2:q2=true->a.tmps[85]? =some (ptr kb)
 s3:q3=true->a.tmps[86]? =some (.pointer (some ⟨kb,10,none⟩))
 s4:q4=true->a.tmps[87]? =some (vw)
 s5:q5=true->a.tmps[88]? =some (.agg (bt e d t ta tn tc p).toArray)
 s6:q6=true->a.tmps[89]? =some (.slice (some ⟨W.heap.size,0,none⟩) 1 1)
 s8:q8=true->a.tmps[91]? =some (ptr kb)
 s9:q9=true->a.tmps[92]? =some (.pointer (some ⟨kb,10,none⟩))
 w6:q6=false->w=W
 w7:q6=true->q7=false->w=W.alloc (.cells (bt e d t ta tn tc p).toArray 150)
 w10:q7=true->∃g off cap w1,Row w1 150 5 (.slice (some ⟨g,off,none⟩) (n+1) cap) (n+1) (xs++bt e d t ta tn tc p)/\Grew vw g (W.alloc (.cells (bt e d t ta tn tc p).toArray 150)) w1/\a.tmps[90]? =some (.slice (some ⟨g,off,none⟩) (n+1) cap)/\w=if q10=true then w1.setCell ⟨kb,10,none⟩ (.slice (some ⟨g,off,none⟩) (n+1) cap)else w1
 c7:q7=true->q4=true/\q6=true
 c10:q10=true->q7=true
section
variable {W:World}{b2 b10 kb n:Nat}{vw:Value}{xs:List Value}{cs:Array Value}{e d t:Nat}{ta:Option Addr}{tn tc p:Nat}{q0 q1 q2 q3 q4 q5 q6 q7 q8 q9 q10:Bool}{a:Act}{w:World}
theorem RI.kept(h:RI W b2 b10 kb n vw xs e d t ta tn tc p q0 q1 q2 q3 q4 q5 q6 q7 q8 q9 q10 a w){ob:Obj}(hk:W.heap[k]? =some ob)(R:k≠kb)(h2:vw.ownBlock≠some k):w.heap[k]? =some ob:=by
 have J:=(jC hk)
 have z:∀o,(W.alloc o).heap[k]? =some ob:=λo=>(aT _ _ _ J).trans hk;cases E:q6 with
 |false=>rw[h.w6 E];exact hk
 |true=>
  cases I:q7 with
  |false=>rw[h.w7 E I];exact z _
  |true=>
   obtain⟨g,off,cap,w1,hr,Y,_,hw⟩:=h.w10 I;have h3:w1.heap[k]? =some ob:=(Y.jO.block k (dR.1 (z _)).1 h2).trans (z _);rw[hw];split
   ·exact(aP _ _ _ _ R).trans h3
   ·exact h3
theorem RB.ne2(z:RB W b2 b10 kb n vw xs cs e d t ta tn tc p):b2≠kb/\vw.ownBlock≠some b2/\b10≠kb/\vw.ownBlock≠some kb:=by
 refine⟨λe=>?_,jF z.row z.h2 (by decide),λe=>?_,jF z.row z.hk (by decide)⟩
 ·have:=z.h2;rw[e,z.hk]at this;simp at this
 ·have:=z.h10;rw[e,z.hk]at this;simp at this
theorem RQ{l m:Nat}{Q:Exit->Act->World->Prop}(hB:RB W b2 b10 kb n vw xs cs e d t ta tn tc p)(an:a.tmps.size=93)(ar:a.tmps[2]? =some (ptr b2))(aj:a.tmps[10]? =some (ptr b10))
  (hQ:∀a' g off cap w1,Row w1 150 5 (.slice (some ⟨g,off,none⟩) (n+1) cap) (n+1) (xs++bt e d t ta tn tc p)->Grew vw g (W.alloc (.cells (bt e d t ta tn tc p).toArray 150)) w1->Q .normal a' (w1.setCell ⟨kb,10,none⟩ (.slice (some ⟨g,off,none⟩) (n+1) cap))):
  wpAnyIn (Fence.wide.inRound l) m PQ .any qw Q 11 (Array.replicate 11 false) a W:=by
 obtain⟨i0,hi,ap,au,aq⟩:=info_parts Au;obtain⟨ae,af,ac⟩:=hB.row.slice;obtain⟨aw,ao,ak,ax⟩:=hB.ne2;refine tY (λL a w=>∃q0 q1 q2 q3 q4 q5 q6 q7 q8 q9 q10,L=#[q0,q1,q2,q3,q4,q5,q6,q7,q8,q9,q10]/\RI W b2 b10 kb n vw xs e d t ta tn tc p q0 q1 q2 q3 q4 q5 q6 q7 q8 q9 q10 a w) ?_ ?_ 11 _ a W (by decide) ⟨false,false,false,false,false,false,false,false,false,false,false,rfl,?_⟩
 ·rintro L a w ⟨q0,q1,q2,q3,q4,q5,q6,q7,q8,q9,q10,rfl,h⟩ hr;have h10:=X4 q0 q1 q2 q3 q4 q5 q6 q7 q8 q9 q10 hr;obtain⟨g,off,cap,w1,h1,h2,h3,h4⟩:=h.w10 (h.c10 h10);rw[h4,if_pos h10];exact hQ _ _ _ _ _ h1 h2
 ·rintro L a w i ⟨q0,q1,q2,q3,q4,q5,q6,q7,q8,q9,q10,rfl,h⟩ hr;have hn:=of_decide_eq_true (eY.1 (Zi q0 q1 q2 q3 q4 q5 q6 q7 q8 q9 q10) i hr);have h2:=h.kept hB.h2 aw ao;have h10:=h.kept hB.h10 ak hB.ne;obtain⟨ai,d2,d3,d4,d6,d7,d8,d9,aa⟩:=hn
  match i,ai with
  |0,_=>
   obtain⟨o,R,E,z,Y⟩:∃o,qw[0]? =some o/\o.op=.load 93 (.tmp 2)/\o.dst=some 83/\o.guard=none:=⟨_,rfl,rfl,rfl,rfl⟩
   have I:∀c,o.op≠.defer c:=by rw[E];intro c J;cases J
   have J:=nO h2;unfold ptr at J
   refine lH (v:=.pointer (some ⟨kb,0,none⟩)) (w':=w) R Y I (by
    unfold execOp;simp only[E,jW h.t2,ptr];simp[go_sem,J]) ?_
   rw[z];exact⟨true,q1,q2,q3,q4,q5,q6,q7,q8,q9,q10,rfl,⟨by rw[oM];exact h.sz,jD (by decide) h.t2,jD (by decide) h.t10,λ_=>DU (d:=83) (by rw[h.sz];decide),λe=>jD (by decide) (h.s1 e),λe=>jD (by decide) (h.s2 e),λe=>jD (by decide) (h.s3 e),λe=>jD (by decide) (h.s4 e),λe=>jD (by decide) (h.s5 e),λe=>jD (by decide) (h.s6 e),λe=>jD (by decide) (h.s8 e),λe=>jD (by decide) (h.s9 e),h.w6,h.w7,λe=>(by obtain⟨g,off,cap,w1,r1,r2,r3,r4⟩:=h.w10 e;exact⟨g,off,cap,w1,r1,r2,jD (by decide) r3,r4⟩),h.c7,h.c10⟩⟩
  |1,_=>
   obtain⟨o,R,E,z,Y⟩:∃o,qw[1]? =some o/\o.op=.load 93 (.tmp 2)/\o.dst=some 84/\o.guard=none:=⟨_,rfl,rfl,rfl,rfl⟩
   have I:∀c,o.op≠.defer c:=by rw[E];intro c J;cases J
   have J:=nO h2;unfold ptr at J
   refine lH (v:=.pointer (some ⟨kb,0,none⟩)) (w':=w) R Y I (by
    unfold execOp;simp only[E,jW h.t2,ptr];simp[go_sem,J]) ?_
   rw[z];exact⟨q0,true,q2,q3,q4,q5,q6,q7,q8,q9,q10,rfl,⟨by rw[oM];exact h.sz,jD (by decide) h.t2,jD (by decide) h.t10,λe=>jD (by decide) (h.s0 e),λ_=>DU (d:=84) (by rw[h.sz];decide),λe=>jD (by decide) (h.s2 e),λe=>jD (by decide) (h.s3 e),λe=>jD (by decide) (h.s4 e),λe=>jD (by decide) (h.s5 e),λe=>jD (by decide) (h.s6 e),λe=>jD (by decide) (h.s8 e),λe=>jD (by decide) (h.s9 e),h.w6,h.w7,λe=>(by obtain⟨g,off,cap,w1,r1,r2,r3,r4⟩:=h.w10 e;exact⟨g,off,cap,w1,r1,r2,jD (by decide) r3,r4⟩),h.c7,h.c10⟩⟩
  |2,_=>
   obtain⟨o,R,E,z,Y⟩:∃o,qw[2]? =some o/\o.op=.nilCheck (.tmp 84)/\o.dst=some 85/\o.guard=none:=⟨_,rfl,rfl,rfl,rfl⟩
   have I:∀c,o.op≠.defer c:=by rw[E];intro c J;cases J
   refine lH (v:=.pointer (some ⟨kb,0,none⟩)) (w':=w) R Y I (by
    unfold execOp;simp only[E,jW (h.s1 (d2 rfl)),ptr];simp[go_sem]) ?_
   rw[z];exact⟨q0,q1,true,q3,q4,q5,q6,q7,q8,q9,q10,rfl,⟨by rw[oM];exact h.sz,jD (by decide) h.t2,jD (by decide) h.t10,λe=>jD (by decide) (h.s0 e),λe=>jD (by decide) (h.s1 e),λ_=>DU (d:=85) (by rw[h.sz];decide),λe=>jD (by decide) (h.s3 e),λe=>jD (by decide) (h.s4 e),λe=>jD (by decide) (h.s5 e),λe=>jD (by decide) (h.s6 e),λe=>jD (by decide) (h.s8 e),λe=>jD (by decide) (h.s9 e),h.w6,h.w7,λe=>(by obtain⟨g,off,cap,w1,r1,r2,r3,r4⟩:=h.w10 e;exact⟨g,off,cap,w1,r1,r2,jD (by decide) r3,r4⟩),h.c7,h.c10⟩⟩
  |3,_=>
   obtain⟨o,R,E,z,Y⟩:∃o,qw[3]? =some o/\o.op=.fieldAddr 137 (.tmp 85) 3/\o.dst=some 86/\o.guard=none:=⟨_,rfl,rfl,rfl,rfl⟩
   have I:∀c,o.op≠.defer c:=by rw[E];intro c J;cases J
   refine lH (v:=.pointer (some ⟨kb,10,none⟩)) (w':=w) R Y I (by
    unfold execOp;simp only[E,jW (h.s2 (d3 rfl)),ptr];simp[go_sem]) ?_
   rw[z];exact⟨q0,q1,q2,true,q4,q5,q6,q7,q8,q9,q10,rfl,⟨by rw[oM];exact h.sz,jD (by decide) h.t2,jD (by decide) h.t10,λe=>jD (by decide) (h.s0 e),λe=>jD (by decide) (h.s1 e),λe=>jD (by decide) (h.s2 e),λ_=>DU (d:=86) (by rw[h.sz];decide),λe=>jD (by decide) (h.s4 e),λe=>jD (by decide) (h.s5 e),λe=>jD (by decide) (h.s6 e),λe=>jD (by decide) (h.s8 e),λe=>jD (by decide) (h.s9 e),h.w6,h.w7,λe=>(by obtain⟨g,off,cap,w1,r1,r2,r3,r4⟩:=h.w10 e;exact⟨g,off,cap,w1,r1,r2,jD (by decide) r3,r4⟩),h.c7,h.c10⟩⟩
  |4,_=>
   obtain⟨o,R,E,z,Y⟩:∃o,qw[4]? =some o/\o.op=.load 135 (.tmp 86)/\o.dst=some 87/\o.guard=none:=⟨_,rfl,rfl,rfl,rfl⟩
   have I:∀c,o.op≠.defer c:=by rw[E];intro c J;cases J
   have h7:q7=false:=by
    cases h7:q7 with
    |false=>rfl
    |true=>have:=(h.c7 h7).1;rw[(d4 rfl).2]at this;cases this
   have ab:w.heap[kb]? =some (.cells cs 137 (0,0)):=by
    cases h6:q6 with
    |false=>rw[h.w6 h6];exact hB.hk
    |true=>rw[h.w7 h6 h7];exact(aT _ _ _ (jC hB.hk)).trans hB.hk
   have J:w.cell? ⟨kb,10,none⟩=some (.slice ae n af):=by rw[aA ab,hB.hw,ac]
   refine lH (v:=.slice ae n af) (w':=w) R Y I (by
    unfold execOp;simp only[E,jW (h.s3 (d4 rfl).1)];simp[go_sem,J]) ?_
   rw[z];exact⟨q0,q1,q2,q3,true,q5,q6,q7,q8,q9,q10,rfl,⟨by rw[oM];exact h.sz,jD (by decide) h.t2,jD (by decide) h.t10,λe=>jD (by decide) (h.s0 e),λe=>jD (by decide) (h.s1 e),λe=>jD (by decide) (h.s2 e),λe=>jD (by decide) (h.s3 e),λ_=>(by rw[ac];exact DU (d:=87) (by rw[h.sz];decide)),λe=>jD (by decide) (h.s5 e),λe=>jD (by decide) (h.s6 e),λe=>jD (by decide) (h.s8 e),λe=>jD (by decide) (h.s9 e),h.w6,h.w7,λe=>(by obtain⟨g,off,cap,w1,r1,r2,r3,r4⟩:=h.w10 e;exact⟨g,off,cap,w1,r1,r2,jD (by decide) r3,r4⟩),λe=>⟨rfl,(h.c7 e).2⟩,h.c10⟩⟩
  |5,_=>
   obtain⟨o,R,E,z,Y⟩:∃o,qw[5]? =some o/\o.op=.load 150 (.tmp 10)/\o.dst=some 88/\o.guard=none:=⟨_,rfl,rfl,rfl,rfl⟩
   have I:∀c,o.op≠.defer c:=by rw[E];intro c J;cases J
   obtain⟨c0,c1,c2,c3,c4,_⟩:=cells5 h10
   refine lH (v:=.agg #[.int .i64 e,.int .i64 d,.int .i64 t,.slice ta tn tc,.int .i64 p]) (w':=w) R Y I (by
    unfold execOp;simp only[E,jW h.t10,ptr];simp[go_sem,c0,c1,c2,c3,c4]) ?_
   rw[z];exact⟨q0,q1,q2,q3,q4,true,q6,q7,q8,q9,q10,rfl,⟨by rw[oM];exact h.sz,jD (by decide) h.t2,jD (by decide) h.t10,λe=>jD (by decide) (h.s0 e),λe=>jD (by decide) (h.s1 e),λe=>jD (by decide) (h.s2 e),λe=>jD (by decide) (h.s3 e),λe=>jD (by decide) (h.s4 e),λ_=>DU (d:=88) (by rw[h.sz];decide),λe=>jD (by decide) (h.s6 e),λe=>jD (by decide) (h.s8 e),λe=>jD (by decide) (h.s9 e),h.w6,h.w7,λe=>(by obtain⟨g,off,cap,w1,r1,r2,r3,r4⟩:=h.w10 e;exact⟨g,off,cap,w1,r1,r2,jD (by decide) r3,r4⟩),h.c7,h.c10⟩⟩
  |6,_=>
   obtain⟨o,R,E,z,Y⟩:∃o,qw[6]? =some o/\o.op=.buildSlice 135 1 #[(0,.tmp 88)]/\o.dst=some 89/\o.guard=none:=⟨_,rfl,rfl,rfl,rfl⟩
   have I:∀c,o.op≠.defer c:=by rw[E];intro c J;cases J
   have h7:q7=false:=by
    cases h7:q7 with
    |false=>rfl
    |true=>have:=(h.c7 h7).2;rw[(d6 rfl).2]at this;cases this
   have hw:=h.w6 (d6 rfl).2;subst hw;have ah:=h.s5 (d6 rfl).1;unfold bt at ah
   refine lH (v:=.slice (some ⟨w.heap.size,0,none⟩) 1 1) (w':=w.alloc (.cells (bt e d t ta tn tc p).toArray 150)) R Y I (by
    unfold execOp;simp only[E];simp[go_sem,ah,bt]) ?_
   rw[z];exact⟨q0,q1,q2,q3,q4,q5,true,q7,q8,q9,q10,rfl,⟨by rw[oM];exact h.sz,jD (by decide) h.t2,jD (by decide) h.t10,λe=>jD (by decide) (h.s0 e),λe=>jD (by decide) (h.s1 e),λe=>jD (by decide) (h.s2 e),λe=>jD (by decide) (h.s3 e),λe=>jD (by decide) (h.s4 e),λe=>jD (by decide) (h.s5 e),λ_=>DU (d:=89) (by rw[h.sz];decide),λe=>jD (by decide) (h.s8 e),λe=>jD (by decide) (h.s9 e),λe=>(by cases e),λ_ _=>rfl,λe=>(by rw[h7]at e;cases e),λe=>(by rw[h7]at e;cases e),h.c10⟩⟩
  |7,_=>
   obtain⟨o,R,E,z,Y⟩:∃o,qw[7]? =some o/\o.op=.call { callee:=.builtin .append,args:=#[.tmp 87,.tmp 89],argTypes:=#[135,135] }/\o.dst=some 90/\o.guard=none:=⟨_,rfl,rfl,rfl,rfl⟩
   have I:∀c,o.op≠.defer c:=by rw[E];intro c J;cases J
   have hw:=h.w7 (d7 rfl).2.1 (d7 rfl).2.2
   have ag:q10=false:=by
    cases h10:q10 with
    |false=>rfl
    |true=>have:=h.c10 h10;rw[(d7 rfl).2.2]at this;cases this
   subst hw;obtain⟨v',w1,hr,r1,⟨g,off,cap,rfl⟩,r3⟩:=(hB.row.below ((aB _ W).alloc jA (.cells (bt e d t ta tn tc p).toArray 150))).append (P:=PQ) 135 o.type i0 _ 56 (uq Tryz.underlying135) hi ap au aq (by rfl) (by decide) ⟨W.heap.size,0,none⟩ 1 1 (bt e d t ta tn tc p) (by decide) (by rfl) (by intro j u hj;unfold bt at hj⊢;match j,hj with|0,hj=>(simp at hj;subst hj;simp[Addr.add])|1,hj=>(simp at hj;subst hj;simp[Addr.add])|2,hj=>(simp at hj;subst hj;simp[Addr.add])|3,hj=>(simp at hj;subst hj;simp[Addr.add])|4,hj=>(simp at hj;subst hj;simp[Addr.add])) (by intro u hu;unfold bt at hu;simp at hu;rcases hu with rfl|rfl|rfl|rfl|rfl<;>rfl) (by have:=hB.len;unfold maxLen;omega) (by have:=hB.len;omega)
   have av:Grew vw g (W.alloc (.cells (bt e d t ta tn tc p).toArray 150)) w1:=by
    rcases r3 with⟨e1,e2,e3⟩|⟨e1,e2,e3⟩
    ·have am:vw.ownBlock=some g:=e1.symm;exact .inl ⟨am,by rw[<-am];exact e2,e3⟩
    ·exact .inr ⟨by simpa[Value.ownBlock]using e1,e2,e3⟩
   refine lH (v:=.slice (some ⟨g,off,none⟩) (n+1) cap) (w':=w1) R Y I (by
    unfold execOp;simp only[E];simp[resolve,invoke,builtin,jW (h.s4 (d7 rfl).1),jW (h.s6 (d7 rfl).2.1),hr,Result.andThen]) ?_
   rw[z];exact⟨q0,q1,q2,q3,q4,q5,q6,true,q8,q9,q10,rfl,⟨by rw[oM];exact h.sz,jD (by decide) h.t2,jD (by decide) h.t10,λe=>jD (by decide) (h.s0 e),λe=>jD (by decide) (h.s1 e),λe=>jD (by decide) (h.s2 e),λe=>jD (by decide) (h.s3 e),λe=>jD (by decide) (h.s4 e),λe=>jD (by decide) (h.s5 e),λe=>jD (by decide) (h.s6 e),λe=>jD (by decide) (h.s8 e),λe=>jD (by decide) (h.s9 e),λe=>(by rw[(d7 rfl).2.1]at e;cases e),λ_ e=>(by cases e),λ_=>⟨g,off,cap,w1,r1,av,DU (d:=90) (by rw[h.sz];decide),by rw[if_neg (by rw[ag];simp)]⟩,λ_=>⟨(d7 rfl).1,(d7 rfl).2.1⟩,λ_=>rfl⟩⟩
  |8,_=>
   obtain⟨o,R,E,z,Y⟩:∃o,qw[8]? =some o/\o.op=.nilCheck (.tmp 83)/\o.dst=some 91/\o.guard=none:=⟨_,rfl,rfl,rfl,rfl⟩
   have I:∀c,o.op≠.defer c:=by rw[E];intro c J;cases J
   refine lH (v:=.pointer (some ⟨kb,0,none⟩)) (w':=w) R Y I (by
    unfold execOp;simp only[E,jW (h.s0 (d8 rfl)),ptr];simp[go_sem]) ?_
   rw[z];exact⟨q0,q1,q2,q3,q4,q5,q6,q7,true,q9,q10,rfl,⟨by rw[oM];exact h.sz,jD (by decide) h.t2,jD (by decide) h.t10,λe=>jD (by decide) (h.s0 e),λe=>jD (by decide) (h.s1 e),λe=>jD (by decide) (h.s2 e),λe=>jD (by decide) (h.s3 e),λe=>jD (by decide) (h.s4 e),λe=>jD (by decide) (h.s5 e),λe=>jD (by decide) (h.s6 e),λ_=>DU (d:=91) (by rw[h.sz];decide),λe=>jD (by decide) (h.s9 e),h.w6,h.w7,λe=>(by obtain⟨g,off,cap,w1,r1,r2,r3,r4⟩:=h.w10 e;exact⟨g,off,cap,w1,r1,r2,jD (by decide) r3,r4⟩),h.c7,h.c10⟩⟩
  |9,_=>
   obtain⟨o,R,E,z,Y⟩:∃o,qw[9]? =some o/\o.op=.fieldAddr 137 (.tmp 91) 3/\o.dst=some 92/\o.guard=none:=⟨_,rfl,rfl,rfl,rfl⟩
   have I:∀c,o.op≠.defer c:=by rw[E];intro c J;cases J
   refine lH (v:=.pointer (some ⟨kb,10,none⟩)) (w':=w) R Y I (by
    unfold execOp;simp only[E,jW (h.s8 (d9 rfl)),ptr];simp[go_sem]) ?_
   rw[z];exact⟨q0,q1,q2,q3,q4,q5,q6,q7,q8,true,q10,rfl,⟨by rw[oM];exact h.sz,jD (by decide) h.t2,jD (by decide) h.t10,λe=>jD (by decide) (h.s0 e),λe=>jD (by decide) (h.s1 e),λe=>jD (by decide) (h.s2 e),λe=>jD (by decide) (h.s3 e),λe=>jD (by decide) (h.s4 e),λe=>jD (by decide) (h.s5 e),λe=>jD (by decide) (h.s6 e),λe=>jD (by decide) (h.s8 e),λ_=>DU (d:=92) (by rw[h.sz];decide),h.w6,h.w7,λe=>(by obtain⟨g,off,cap,w1,r1,r2,r3,r4⟩:=h.w10 e;exact⟨g,off,cap,w1,r1,r2,jD (by decide) r3,r4⟩),h.c7,h.c10⟩⟩
  |10,_=>
   obtain⟨o,R,E,z,Y⟩:∃o,qw[10]? =some o/\o.op=.store 135 (.tmp 92) (.tmp 90)/\o.dst=none/\o.guard=none:=⟨_,rfl,rfl,rfl,rfl⟩
   have I:∀c,o.op≠.defer c:=by rw[E];intro c J;cases J
   obtain⟨g,off,cap,w1,r1,r2,r3,r4⟩:=h.w10 (aa rfl).2.1;rw[if_neg (by rw[(aa rfl).2.2];simp)]at r4;subst r4;have ab:w.heap[kb]? =some (.cells cs 137 (0,0)):=r2.keep (hB.row.below ((aB _ W).alloc jA _)) ((aT _ _ _ (jC hB.hk)).trans hB.hk) (by decide);have J:w.cell? ⟨kb,10,none⟩=some (.slice ae n af):=by rw[aA ab,hB.hw,ac]
   have hz:=aI ab 10
   refine Jw (w':=w.setCell ⟨kb,10,none⟩ (.slice (some ⟨g,off,none⟩) (n+1) cap)) R Y I (by
    unfold execOp;simp only[E,jW (h.s9 (aa rfl).1),jW r3];simp[go_sem,stored,J,hz]) ?_
   rw[z];exact⟨q0,q1,q2,q3,q4,q5,q6,q7,q8,q9,true,rfl,⟨h.sz,h.t2,h.t10,h.s0,h.s1,h.s2,h.s3,h.s4,h.s5,h.s6,h.s8,h.s9,λe=>(by have:=(h.c7 (aa rfl).2.1).2;rw[this]at e;cases e),λ_ e=>(by rw[(aa rfl).2.1]at e;cases e),λ_=>⟨g,off,cap,w,r1,r2,r3,by rw[if_pos rfl]⟩,h.c7,λ_=>(aa rfl).2.1⟩⟩
 ·exact⟨an,ar,aj,λe=>(by cases e),λe=>(by cases e),λe=>(by cases e),λe=>(by cases e),λe=>(by cases e),λe=>(by cases e),λe=>(by cases e),λe=>(by cases e),λe=>(by cases e),λ_=>rfl,λe=>(by cases e),λe=>(by cases e),λe=>(by cases e),λe=>(by cases e)⟩
end
end
open Fr (below_drewN)
open Dv (U Cf Ba Ch)
section
variable {kb n nb:Nat}{W1 W W' w:World}{cs1 cs:Array Value}{vw1 vw2 vo v vw v9:Value}{ws1 ws2 ws:List PW}{bs:List Ba}{M:Nat->Prop}{pre:List (List UInt8)}{os:List PC}
structure UI(kb n:Nat)(W1:World)(cs1:Array Value)(vw1:Value)(ws1:List PW)(bs:List Ba)(W:World)(vw2:Value)(ws2:List PW):Prop where
 obj:W.heap[kb]? =some (.cells (cs1.setIfInBounds 10 vw2) 137 (0,0))
 row:Row W 150 5 vw2 (ws1++ws2).length ((ws1++ws2).flatMap lD)
 txs:∀p,p∈ws1++ws2->kM W p.2 p.1.txs
 fst:ws2.map Prod.fst=vK n bs
 own:∀g,vw2.ownBlock=some g->vw1.ownBlock=some g\/W1.heap.size<=g
 jO:jJ (λk=>k=kb\/vw1.ownBlock=some k) W1 W
theorem UI.mZ(h:UI kb n W1 cs1 vw1 ws1 bs W vw2 ws2)(z:jJ M W W')(I:oJ M W)(E:∀k,k<W1.heap.size->¬M k):UI kb n W1 cs1 vw1 ws1 bs W' vw2 ws2:=
 ⟨(z.block _ (jC h.obj) (I _ _ _ _ h.obj)).trans h.obj,tC h.row z I,λp hp=>(h.txs p hp).jO z I.str,h.fst,h.own,h.jO.trans z (λk hk e=>absurd e (E k hk))⟩
theorem qA(cs:Array Value)(i:Nat)(u v:Value):(cs.setIfInBounds i u).setIfInBounds i v=cs.setIfInBounds i v:=by simp
theorem PS.aaL{B:Nat->Prop}{E:List Ch}{nm:AL}(h:PS kb nb B E pre W cs vo nm os)(z:W'.heap[kb]? =some (.cells (cs.setIfInBounds 10 v) 137 (0,0)))(J:jJ M W W')(I:∀k,Own nb vo os k->¬M k):PS kb nb B E pre W' (cs.setIfInBounds 10 v) vo nm os:=
 ⟨z,by rw[aO];simpa using h.named,by rw[aO];simpa using h.order,h.chs.jO J I,h.len,h.pull,h.own⟩
theorem Chs.Qd{nm:AL}(h:Chs w nb vo nm os){m:Nat}{xs:List Value}(E:Row w 150 5 v m xs){k:Nat}(hk:v.ownBlock=some k):¬Own nb vo os k:=by
 obtain⟨z,I⟩:=E.obj hk;exact h.kU I (by decide) (by decide)
structure TI(kb nb n:Nat)(w:World)(cs:Array Value)(vw:Value)(ws:List PW)(pre:List (List UInt8))(W:World)(v9 vw1:Value)(ws1:List PW):Prop where
 obj:W.heap[kb]? =some (.cells ((cs.setIfInBounds 9 v9).setIfInBounds 10 vw1) 137 (0,0))
 row:Row W 150 5 vw1 (ws++ws1).length ((ws++ws1).flatMap lD)
 txs:∀p,p∈ws++ws1->kM W p.2 p.1.txs
 fst:ws1.map Prod.fst=pre.flatMap (λs=>Dv.reads s n)
 own:∀g,vw1.ownBlock=some g->vw.ownBlock=some g\/w.heap.size<=g
 jO:jJ (λk=>k=kb\/k=nb\/vw.ownBlock=some k) w W
 nbm:NC W nb
 nbl:nb<w.heap.size
theorem TI.mZ(h:TI kb nb n w cs vw ws pre W v9 vw1 ws1)(E:jJ M W W')(I:oJ M W)(z:∀k,k<w.heap.size->¬M k):TI kb nb n w cs vw ws pre W' v9 vw1 ws1:=
 ⟨(E.block _ (jC h.obj) (I _ _ _ _ h.obj)).trans h.obj,tC h.row E I,λp hp=>(h.txs p hp).jO E I.str,h.fst,h.own,h.jO.trans E (λk hk e=>absurd e (z k hk)),λc t J e=>h.nbm c t J (by rw[<-E.block nb (aH h.nbl h.jO.size) (z nb h.nbl)];exact e),h.nbl⟩
theorem TI.turn(h:TI kb nb n w cs vw ws pre W v9 vw1 ws1)(Y:jJ (λk=>k=kb\/k=nb) W W')(hE:EK kb W W')(R:NC W' nb):∃J,TI kb nb n w cs vw ws pre W' J vw1 ws1:=by
 obtain⟨v,hv⟩:=hE _ _ _ h.obj
 have z:∀(g:Nat)(E:Array Value)(t:Nat)(fz:Nat×Nat),W.heap[g]? =some (.cells E t fz)->t≠137->¬(g=kb\/g=nb):=by
  rintro g E t fz I ht (rfl|rfl)
  ·rw[h.obj]at I;simp at I;exact ht I.2.1.symm
  ·exact h.nbm _ _ _ I
 refine⟨v,?_,h.row.jO Y (λg I=>?_),λp hp=>Row.jO (h.txs p hp) Y (λg I=>?_),h.fst,h.own,h.jO.trans Y (λk _ e=>e.elim .inl (λe=>.inr (.inl e))),R,h.nbl⟩
 ·rw[hv]
  congr 2
  apply fP;intro i;simp only[aO,jg];split
  ·rename_i e;subst e;simp
  ·rfl
 ·obtain⟨E,q⟩:=h.row.obj I;exact z g _ _ _ q (by decide)
 ·obtain⟨E,q⟩:=Row.obj (h.txs p hp) I;exact z g _ _ _ q (by decide)
theorem TI.more(h:TI kb nb n w cs vw ws pre W1 v9 vw1 ws1){s:List UInt8}(z:UI kb n W1 ((cs.setIfInBounds 9 v9).setIfInBounds 10 vw1) vw1 (ws++ws1) bs W vw2 ws2)(R:vK n bs=Dv.reads s n):TI kb nb n w cs vw ws (pre++[s]) W v9 vw2 (ws1++ws2):=by
 refine⟨by have:=z.obj;rw[qA]at this;exact this,by rw[<-fE];exact z.row,λp hp=>z.txs p (by rw[fE];exact hp),?_,λg J=>?_,h.jO.trans z.jO (λk hk e=>?_),λc t E e=>h.nbm c t E ?_,h.nbl⟩
 ·rw[aY,h.fst,z.fst,R,gX];simp
 ·rcases z.own g J with q|q
  ·exact h.own g q
  ·exact .inr (aW h.jO.size q)
 ·rcases e with e|e
  ·exact .inl e
  ·rcases h.own k e with q|q
   ·exact .inr (.inr q)
   ·omega
 ·rw[<-z.jO.block nb (aH h.nbl h.jO.size) ?_]
  ·exact e
  ·rintro(q|q)
   ·have:=h.obj;rw[<-q]at this;exact h.nbm _ _ _ this
   ·obtain⟨I,r⟩:=h.row.obj q;exact h.nbm _ _ _ r
theorem UI.more(h:UI kb n W1 cs1 vw1 ws1 bs W vw2 ws2){b:Ba}(ab:b.epoch<=n){va:Option Addr}{vc:Nat}(hs:kM W (.slice va b.txs.length vc) b.txs){b10:Nat}{w1:World}{g off cap:Nat}(ac:W1.heap.size<=b10)(ae:vw2.ownBlock≠some b10)(E:∃cs,W.heap[b10]? =some (.cells cs 150 (0,0)))(R:jJ (λk=>k=b10) W W')
  (hr:Row w1 150 5 (.slice (some ⟨g,off,none⟩) ((ws1++ws2).length+1) cap) ((ws1++ws2).length+1) ((ws1++ws2).flatMap lD++lD ({ b with place:=n },.slice va b.txs.length vc))) {o:Obj} (hg:Grew vw2 g (W'.alloc o) w1):
  UI kb n W1 cs1 vw1 ws1 (bs++[b]) (w1.setCell ⟨kb,10,none⟩ (.slice (some ⟨g,off,none⟩) ((ws1++ws2).length+1) cap)) (.slice (some ⟨g,off,none⟩) ((ws1++ws2).length+1) cap) (ws2++[({ b with place:=n },.slice va b.txs.length vc)]):=by
 have aa:kb≠b10:=by
  rintro rfl;obtain⟨c',z⟩:=E;rw[h.obj]at z;simp at z
 have hM:jJ (λk=>vw2.ownBlock=some k\/k=b10) W w1:=((R.mono (λk _ e=>.inr e)).trans (jJ.alloc (λ_=>False) W' o) (λ_ _ e=>e.elim)).trans hg.jO (λk _ e=>.inl e)
 have ho:w1.heap[kb]? =some (.cells (cs1.setIfInBounds 10 vw2) 137 (0,0)):=(hM.block kb (jC h.obj) (by
  rintro(e|e)
  ·exact jF h.row h.obj (by decide) e
  ·exact aa e)).trans h.obj
 have I:=jJ.set w1 kb 10 (.slice (some ⟨g,off,none⟩) ((ws1++ws2).length+1) cap)
 have J:∀v l,kM W v l->kM (w1.setCell ⟨kb,10,none⟩ (.slice (some ⟨g,off,none⟩) ((ws1++ws2).length+1) cap)) v l:=λv l hv=>by
  have q1:kM w1 v l:=hv.jO hM (λk cs fz hk e=>by
   rcases e with e|e
   ·exact jF h.row hk (by decide) e
   ·obtain⟨c',z⟩:=E;rw[<-e,hk]at z;simp at z)
  exact q1.jO I (λk cs fz hk e=>by rw[e,ho]at hk;simp at hk)
 have hl:(ws1++(ws2++[(({ b with place:=n }:Ba),Value.slice va b.txs.length vc)])).length=(ws1++ws2).length+1:=by simp;omega
 refine⟨?_,?_,λp hp=>?_,?_,λg' Y=>?_,(h.jO.trans hM (λk hk e=>?_)).trans I (λk _ e=>.inl e)⟩
 ·have:=jT ho 10 (.slice (some ⟨g,off,none⟩) ((ws1++ws2).length+1) cap);rw[qA]at this;exact this
 ·rw[hl,<-fE,gX];have:=hr.jO I (λq hq e=>jF hr ho (by decide) (by rw[hq,e]));simpa using this
 ·rw[<-fE]at hp;rcases dG.1 hp with hp|hp
  ·exact J _ _ (h.txs p hp)
  ·rw[dD.1 hp];exact J _ _ hs
 ·rw[aY,h.fst,vU,if_pos ab];rfl
 ·have Y:g=g':=by simpa[Value.ownBlock]using Y
  subst Y;rcases hg.own with q|q
  ·exact h.own g q
  ·have q2:W'.heap.size+1<=g:=by simpa using q
   have q3:=R.size;have q4:=h.jO.size;exact .inr (by omega)
 ·rcases e with e|e
  ·rcases h.own k e with q|q
   ·exact .inr q
   ·omega
  ·omega
end
open Fr (F)
section
variable {w W W':World}{kb nb k:Nat}{cs:Array Value}{vo vo':Value}{os os':List PC}{l:List Ch}
theorem Ob:∀(l:List F)(j:Nat)(x:F),l[j]? =some x->∀(i:Nat)(u:Value),i<4->(Fr.qN x)[i]? =some u->(Fr.flat l)[j*4+i]? =some u
 |[],j,x,h,_,_,_,_=>by simp at h
 |y::l,0,x,h,i,u,hi,hu=>by
  have h:y=x:=by simpa using h
  subst h;rw[Fr.flat,bP (by simp[Fr.qN];omega)];simpa using hu
 |y::l,j+1,x,h,i,u,hi,hu=>by
  have z:=Ob l j x (by simpa using h) i u hi hu;rw[Fr.flat,bK (by simp[Fr.qN];omega)];have:(j+1)*4+i-(Fr.qN y).length=j*4+i:=by simp[Fr.qN];omega
  rw[this];exact z
def zi(w:World)(v:Value)(fs:List F):Prop:=(v=.slice none 0 0/\fs=[])\/∃g cap z,v=.slice (some ⟨g,0,none⟩) fs.length cap/\w.heap[g]? =some (.cells z 81 (0,0))/\fs.length<=cap/\z.toList.take (fs.length*4)=Fr.flat fs
theorem zi.slice{v:Value}{fs:List F}(h:zi w v fs):∃a cap,v=.slice a fs.length cap:=by
 rcases h with⟨e,E⟩|⟨g,cap,z,e,_⟩
 ·exact⟨none,0,by rw[e,E];rfl⟩
 ·exact⟨_,_,e⟩
theorem zi.at{w:World}{v:Value}{fs:List F}(h:zi w v fs){j:Nat}{x:F}(z:fs[j]? =some x):∃g cap,v=.slice (some ⟨g,0,none⟩) fs.length cap/\w.cell? ⟨g,j*4,none⟩=some (.int .u32 x.chan)/\w.cell? ⟨g,j*4+1,none⟩=some (.int .u16 x.num)/\w.cell? ⟨g,j*4+2,none⟩=some (.string ⟨x.data.toArray⟩)/\w.cell? ⟨g,j*4+3,none⟩=some (.bool x.last):=by
 rcases h with⟨_,Y⟩|⟨g,cap,aa,e,R,_,h3⟩
 ·rw[Y]at z;simp at z
 ·have J:=(aF.1 z).1;have q:=Ob fs j x z
  have E:∀i u,i<4->(Fr.flat fs)[j*4+i]? =some u->w.cell? ⟨g,j*4+i,none⟩=some u:=λi u hi I=>by
   rw[aA R];rw[<-h3,iE (by omega)]at I;simpa using I
  exact⟨g,cap,e,E 0 _ (by decide) (q 0 _ (by decide) rfl),E 1 _ (by decide) (q 1 _ (by decide) rfl),E 2 _ (by decide) (q 2 _ (by decide) rfl),E 3 _ (by decide) (q 3 _ (by decide) rfl)⟩
structure BI(kb nb:Nat)(w:World)(cs:Array Value)(vo:Value)(os:List PC)(l:List Ch)(k:Nat)(W:World)(vo':Value)(nm':AL)(os':List PC):Prop where
 obj:W.heap[kb]? =some (.cells (cs.setIfInBounds 9 vo') 137 (0,0))
 chs:Chs W nb vo' nm' os'
 jO:jJ (λk=>k=kb\/Own nb vo os k) w W
 own:∀k,Own nb vo' os' k->Own nb vo os k\/w.heap.size<=k
 len:os'.length<=os.length+k
 lives:lives nm' os'=l
theorem BI.below{z:AL}(h:BI kb nb w cs vo os l k W vo' z os')(E:Below W.heap.size W W'):BI kb nb w cs vo os l k W' vo' z os':=
 ⟨(E.block _ (jC h.obj)).trans h.obj,h.chs.below E,h.jO.trans (.below E jA _) (λ_ _ e=>e),h.own,h.len,h.lives⟩
theorem BI.took{l':List Ch}{J:AL}(h:BI kb nb w cs vo os l k W vo' J os'){I:Value}{E:AL}{z:List PC}(ht:AU kb nb (cs.setIfInBounds 9 vo') vo' os' W I E z W')(Y:Hm.lives E z=l'):BI kb nb w cs vo os l' (k+1) W' I E z:=
 ⟨by have:=ht.obj;rw[qA]at this;exact this,ht.chs,h.jO.trans ht.jO (λq R e=>by
  rcases e with e|e
  ·exact .inl e
  ·rcases h.own q e with r|r
   ·exact .inr r
   ·omega),λq R=>by
  rcases ht.own q R with e|e
  ·exact h.own q e
  ·exact .inr (aW h.jO.size e),by have:=ht.len;have:=h.len;omega,Y⟩
def kY(fs:Nat->List F)(i:Nat):List F:=(List.range i).flatMap fs
theorem vY(fs:Nat->List F)(i:Nat):kY fs (i+1)=kY fs i++fs i:=by simp[kY,List.range_succ]
theorem Tn(fs:Nat->List F):∀{i m:Nat},i<=m->(kY fs i).length<=(kY fs m).length:=by
 intro i m h
 induction h with
 |refl=>exact jA
 |step _ ih=>rw[vY,aJ];omega
end
open Fr (F below_drewN)
section
variable {Q:Exit->Act->World->Prop}
noncomputable def yK:Code:=match Tryz.f39.body with
 |some (.seq c _)=>c
 |_=>.skip
noncomputable def xZ:Code:=match Tryz.f39.body with
 |some (.seq _ (.seq c _))=>c
 |_=>.skip
noncomputable def yD:Code:=match Tryz.f39.body with
 |some (.seq _ (.seq _ (.seq _ (.seq c _))))=>c
 |_=>.skip
theorem Qw(u2 u3 u4 u5 u6 u7 u8 u9 av b8 ar bg b5 bn ae bx af ak aw cd aj ah bm R b6 b7 cf Y ce bj cl a9 ay b0 ca ba bq bd b2 bs a2 b4 bv b1 bp ab an au a7 a0 E a8 cn bh bb cg az cm a6 b9 b3 cj cp br bk cc ax ac ci ap ag a3 bo I bl a5 aa ai bz ao z ck am co a1 aq a4 bw bu cb J:Value)(kb:Nat)(id tm:Int)(ta:Option Addr)(tn tc:Nat)(la:Option Addr)(ln lc:Nat)(w:World)
  (hQ:Q .normal { tmps:=#[.pointer (some ⟨kb,0,none⟩),.agg #[.int .i64 id,.int .i64 tm,.slice ta tn tc,.slice la ln lc],.pointer (some ⟨w.heap.size,0,none⟩),.pointer (some ⟨w.heap.size+1,0,none⟩),u4,u5,u6,u7,u8,u9,av,b8,ar,bg,b5,bn,ae,bx,af,ak,aw,cd,aj,ah,bm,R,b6,b7,cf,Y,ce,bj,cl,a9,ay,b0,ca,ba,bq,bd,b2,bs,a2,b4,bv,b1,bp,ab,an,au,a7,a0,E,a8,cn,bh,bb,cg,az,cm,a6,b9,b3,cj,cp,br,bk,cc,ax,ac,ci,ap,ag,a3,bo,I,bl,a5,aa,ai,bz,ao,z,ck,am,co,a1,aq,a4,bw,bu,cb,J],defers:=[] } ((w.alloc (.cells #[.pointer (some ⟨kb,0,none⟩)] 93)).alloc (.cells #[.int .i64 id,.int .i64 tm,.slice ta tn tc,.slice la ln lc] 42))):
  yK.wp PQ Q { tmps:=#[.pointer (some ⟨kb,0,none⟩),.agg #[.int .i64 id,.int .i64 tm,.slice ta tn tc,.slice la ln lc],u2,u3,u4,u5,u6,u7,u8,u9,av,b8,ar,bg,b5,bn,ae,bx,af,ak,aw,cd,aj,ah,bm,R,b6,b7,cf,Y,ce,bj,cl,a9,ay,b0,ca,ba,bq,bd,b2,bs,a2,b4,bv,b1,bp,ab,an,au,a7,a0,E,a8,cn,bh,bb,cg,az,cm,a6,b9,b3,cj,cp,br,bk,cc,ax,ac,ci,ap,ag,a3,bo,I,bl,a5,aa,ai,bz,ao,z,ck,am,co,a1,aq,a4,bw,bu,cb,J],defers:=[] } w:=by
 simp only[yK,Tryz.f39];go_wp2_with fail;exact hQ
theorem QV(u4 cq cm cn cp co u0 u1 u3 u5 u6 u7 u8 u9 au ae bu af ak av b9 aj ah bk R b3 b4 cb Y ca bg cg a8 ax bw b6 a9 bn bb bz bo a1 b1 br bx bm ab an ar a6 az E a7 cj bd ba cc ay ci a5 b5 b0 ce cl bp bh b8 aw ac cd ap ag a2 bl I bj a4 aa ai bv ao z cf am ck a0 aq a3 bs bq b7 J:Value)(b2 kb:Nat)(va:Option Addr)(k vc:Nat)(w:World)(c2:w.cell? ⟨b2,0,none⟩=some (.pointer (some ⟨kb,0,none⟩)))(c7:w.cell? ⟨kb,7,none⟩=some (.slice va k vc))
  (hQ:Q .normal { tmps:=#[u0,u1,.pointer (some ⟨b2,0,none⟩),u3,.pointer (some ⟨w.heap.size,0,none⟩),u5,u6,u7,u8,u9,au,.pointer (some ⟨kb,0,none⟩),.pointer (some ⟨kb,0,none⟩),.pointer (some ⟨kb,7,none⟩),.slice va k vc,.int .i64 k,ae,bu,af,ak,av,b9,aj,ah,bk,R,b3,b4,cb,Y,ca,bg,cg,a8,ax,bw,b6,a9,bn,bb,bz,bo,a1,b1,br,bx,bm,ab,an,ar,a6,az,E,a7,cj,bd,ba,cc,ay,ci,a5,b5,b0,ce,cl,bp,bh,b8,aw,ac,cd,ap,ag,a2,bl,I,bj,a4,aa,ai,bv,ao,z,cf,am,ck,a0,aq,a3,bs,bq,b7,J],defers:=[] } (w.alloc (.cells #[.int .i64 k] 3))):
  xZ.wp PQ Q { tmps:=#[u0,u1,.pointer (some ⟨b2,0,none⟩),u3,u4,u5,u6,u7,u8,u9,au,cq,cm,cn,cp,co,ae,bu,af,ak,av,b9,aj,ah,bk,R,b3,b4,cb,Y,ca,bg,cg,a8,ax,bw,b6,a9,bn,bb,bz,bo,a1,b1,br,bx,bm,ab,an,ar,a6,az,E,a7,cj,bd,ba,cc,ay,ci,a5,b5,b0,ce,cl,bp,bh,b8,aw,ac,cd,ap,ag,a2,bl,I,bj,a4,aa,ai,bv,ao,z,cf,am,ck,a0,aq,a3,bs,bq,b7,J],defers:=[] } w:=by
 simp only[xZ,Tryz.f39];go_wp2_with fail;exact hQ
theorem AU.from{kb nb:Nat}{cs:Array Value}{vo:Value}{os:List PC}{w V:World}{z:Value}{E:AL}{I:List PC}{w':World}(h:AU kb nb cs vo os V z E I w')(J:Below w.heap.size w V):AU kb nb cs vo os w z E I w':=
 ⟨h.obj,h.chs,(jJ.below J jA _).trans h.jO (λ_ _ e=>e),λk hk=>(h.own k hk).imp (λe=>e) (λe=>aW J.size e),h.len⟩
theorem Gq(u0 u1 u3 u5 u6 u7 u8 u9 a6 cf a4 bp cd bv aq b7 ar ay a7 ck ax av bu ak ce de di cv dh c5 dq c3 c2 c9 dg c4 bz bo ca b0 bd cc b5 b9 bx an a0 a5 bl ba ah bm cq bq bn cl a9 cp bk cg cb cn ct b1 br cj a8 ao cm a2 au bg bw ai bs bj am aw b8 a1 ag co az cr bb a3 bh b6 b3 ci aj:Value)(b2 b4 kb nb n:Nat)(z:Int)(cs:Array Value)(vo:Value)(nm:AL)(os:List PC)(w:World)
  (h2:w.heap[b2]? =some (.cells #[ptr kb] 93 (0,0))) (h4:w.heap[b4]? =some (.cells #[.int .i64 n] 3 (0,0))) (hk:w.heap[kb]? =some (.cells cs 137 (0,0))) (ac:cs[2]? =some (.int .i64 z)) (h8:cs[8]? =some (.map (some nb))) (h9:cs[9]? =some vo) (ae:Chs w nb vo nm os) (c1:os.length<=4294967296) (hn:n<=4294967296) (dt:0<=z/\z<=4294967296)
  (hQ:∀(dd cw cx dj c6 dl dk cu db cz dm:Value)(W':World)(J:Value)(I:AL)(E:List PC),AU kb nb cs vo os w J I E W'->E.length<=os.length->lives I E=(lives nm os).filter (λc=>!decide ((c.opened:Int)<n-z))->Q .normal { tmps:=#[u0,u1,.pointer (some ⟨b2,0,none⟩),u3,.pointer (some ⟨b4,0,none⟩),u5,u6,u7,u8,u9,a6,cf,a4,bp,cd,bv,aq,b7,ar,ay,a7,ck,ax,av,bu,ak,ce,dd,cw,cx,dj,c6,dl,dk,cu,db,cz,dm,bz,bo,ca,b0,bd,cc,b5,b9,bx,an,a0,a5,bl,ba,ah,bm,cq,bq,bn,cl,a9,cp,bk,cg,cb,cn,ct,b1,br,cj,a8,ao,cm,a2,au,bg,bw,ai,bs,bj,am,aw,b8,a1,ag,co,az,cr,bb,a3,bh,b6,b3,ci,aj],defers:=[] } W'):
  yD.wp PQ Q { tmps:=#[u0,u1,.pointer (some ⟨b2,0,none⟩),u3,.pointer (some ⟨b4,0,none⟩),u5,u6,u7,u8,u9,a6,cf,a4,bp,cd,bv,aq,b7,ar,ay,a7,ck,ax,av,bu,ak,ce,de,di,cv,dh,c5,dq,c3,c2,c9,dg,c4,bz,bo,ca,b0,bd,cc,b5,b9,bx,an,a0,a5,bl,ba,ah,bm,cq,bq,bn,cl,a9,cp,bk,cg,cb,cn,ct,b1,br,cj,a8,ao,cm,a2,au,bg,bw,ai,bs,bj,am,aw,b8,a1,ag,co,az,cr,bb,a3,bh,b6,b3,ci,aj],defers:=[] } w:=by
 have dr:IntKind.i64.wrap ((n:Int)-z)=(n:Int)-z:=by rw[IntKind.wrap_i64];omega
 have hS:∀V,Below w.heap.size w V->V.cell? ⟨b2,0,none⟩=some (.pointer (some ⟨kb,0,none⟩))/\V.cell? ⟨b4,0,none⟩=some (.int .i64 n)/\V.cell? ⟨kb,2,none⟩=some (.int .i64 z):=λV hV=>by
  have q2:=(hV.block _ (jC h2)).trans h2;have q4:=(hV.block _ (jC h4)).trans h4;have qk:=(hV.block _ (jC hk)).trans hk;exact⟨by rw[aA q2];rfl,by rw[aA q4];rfl,by rw[aA qk];exact ac⟩
 have Y:∀V,Below w.heap.size w V->Calls PQ 70 #[.pointer (some ⟨kb,8,none⟩),.int .i64 ((n:Int)-z)] V λe w'=>e=.returned (.tuple #[])/\(w'.cell? ⟨b2,0,none⟩=some (.pointer (some ⟨kb,0,none⟩))/\w'.cell? ⟨b4,0,none⟩=some (.int .i64 n)/\w'.cell? ⟨kb,2,none⟩=some (.int .i64 z))/\Hid (∃J I E,AU kb nb cs vo os w J I E w'/\E.length<=os.length/\lives I E=(lives nm os).filter (λc=>!decide ((c.opened:Int)<n-z))):=λV hV=>by
  refine(KC kb nb cs vo nm os ((n:Int)-z) V ((hV.block _ (jC hk)).trans hk) h8 h9 (ae.below hV) c1).mono ?_;rintro e w' ⟨rfl,J,I,E,ht,hl,af⟩;have ap:=ht.from hV
  have far:∀(k:Nat)(c:Array Value)(t:Nat)(fz:Nat×Nat),w.heap[k]? =some (.cells c t fz)->t≠137->t≠197->t≠201->w'.heap[k]? =some (.cells c t fz):=λk c t fz R t1 t2 t3=>(ap.jO.block k (jC R) (by
   rintro(rfl|e)
   ·rw[hk]at R;simp at R;exact t1 R.2.1.symm
   ·exact ae.kU R t2 t3 e)).trans R
  refine⟨rfl,⟨by rw[aA (far _ _ _ _ h2 (by decide) (by decide) (by decide))];rfl,by rw[aA (far _ _ _ _ h4 (by decide) (by decide) (by decide))];rfl,?_⟩,J,I,E,ap,hl,af⟩;rw[aA ht.obj,aO];simpa using ac
 have HS:Hid _:=hS;have ab:Hid _:=Y;have HQ:Hid _:=hQ;clear hS Y hQ h2 h4 hk ac h8 h9 ae;simp only[yD,Tryz.f39];have aa:=aB w.heap.size w;go_region_held3 (λV=>V.cell? ⟨b2,0,none⟩=some (.pointer (some ⟨kb,0,none⟩))/\V.cell? ⟨b4,0,none⟩=some (.int .i64 n)/\V.cell? ⟨kb,2,none⟩=some (.int .i64 z)) (first|exact cy|(refine HS.out _ ?_;first|exact aa|exact aa.drew)) (first|(go_at_call 70;(refine aK (ab.out _ ?_) ?_;(first|exact aa.drew|exact aa);rintro e5 w5 ⟨rfl,cy,H5⟩)))
 all_goals
  obtain⟨J,I,E,ht,hl,af⟩:=H5.out;exact HQ.out _ _ _ _ _ _ _ _ _ _ _ w5 J I E ht hl af
end
end Hm
namespace Hm
open Go.RowKit Go.Joins Go.Shelf
open Fr (below_drewN)
open Dv (U Cf Ba Ch)
attribute [local go_sem] Oper.semAt_some
variable {M:Nat->Prop}{W A:World}{kb nb n:Nat}{pre:List (List UInt8)}{cs:Array Value}{vw1:Value}{ws1:List PW}
noncomputable def Eh:Code:=match Tryz.f39.body with
 |some (.seq _ (.seq _ (.seq _ (.seq _ (.seq _ c)))))=>c
 |_=>.skip
theorem KX(kb:Nat)(w:World):Calls PQ 73 #[.pointer (some ⟨kb,8,none⟩)] w λe w'=>e=.returned (.func (.func 115) #[] #[.pointer (some ⟨w.heap.size,0,none⟩)])/\w'=w.alloc (.cells #[.pointer (some ⟨kb,8,none⟩)] 196):=by
 go_enter (fq Tryz.func73 rfl),Tryz.ntmps73;go_wp2_with fail;go_ret;exact⟨rfl,rfl⟩
theorem AX(S:ByteArray)(w:World):Calls PQ 74 #[.string S] w λe w'=>e=.returned (.func (.func 118) #[] #[.pointer (some ⟨w.heap.size,0,none⟩)])/\w'=w.alloc (.cells #[.string S] 9):=by
 go_enter (fq Tryz.func74 rfl),Tryz.ntmps74;go_wp2_with fail;go_ret;exact⟨rfl,rfl⟩
theorem zh{I:World}(E:jJ M W I)(R:∀k,M k->k<W.heap.size->∃cs t z,W.heap[k]? =some (.cells cs t z)):KeepsOthers W I:=⟨E.size,λk o hk J=>(E.block k (jC hk) (λe=>by
 obtain⟨cs,t,z,q⟩:=R k e (jC hk);rw[hk]at q;cases q;cases J)).trans hk⟩
theorem Nl.own(ho:Option Obj)(I:Nat)(S:ByteArray)(n:Nat)(hn:1<n):OwnFrom n (Nl ho I S):=by
 rintro pre A B row ⟨Y,h2,h3⟩ R hr;obtain⟨M,z,J,E⟩:=lN R hr;have q0:=z.block 1 h2.pos (E _ hn);obtain⟨⟨a0,a1,a2⟩,a3,a4,a5⟩:=h2;exact⟨q0.trans Y,⟨⟨(World.cell?_of_block q0).trans a0,(World.cell?_of_block q0).trans a1,(World.cell?_of_block q0).trans a2⟩,(World.cell?_of_block q0).trans a3,(World.cell?_of_block q0).trans a4,(World.cell?_of_block q0).trans a5⟩,vF h3 z J⟩
theorem BY.own(T:List UInt8)(n lo:Nat):OwnFrom n (λ(q:List BX×BX) W=>BY T q.1 q.2 lo W):=by
 rintro q A B row ⟨E,h2,h3⟩ Y J;obtain⟨M,z,R,I⟩:=lN Y J;exact⟨⟨kM.jO E.1 z R.str,E.2⟩,h2,h3⟩
theorem PS.grown{B:Nat->Prop}{J:List Ch}{I:World}{vo:Value}{nm:AL}{os:List PC}(h:PS kb nb B J pre A cs vo nm os){row:Option Nat}(hn:∀k,B k->k<n)(Y:A.grownBy I row)(hr:∀r,row=some r->n<=r/\∃o:Obj,A.heap[r]? =some o/\o.isCells=false):PS kb nb B J pre I cs vo nm os:=by
 obtain⟨M,z,R,E⟩:=lN Y hr;exact h.jO z (R _ _ _ _ h.obj) (λk hk=>E k (hn k hk))
theorem PSt.own(kb z nb:Nat)(B:Nat->Prop)(l0:List Ch)(p0:PX)(n:Nat)(hn:∀k,B k->k<n)(hc:z<n):OwnFrom n (PSt kb z nb B l0 p0):=by
 rintro pre A A' row ⟨⟨cs,Y⟩,h2⟩ J R;have h3:=Y.grown hn J R;obtain⟨M,E,hM,I⟩:=lN J R;exact⟨⟨cs,h3⟩,(World.cell?_of_block (E.block z (fA A ⟨z,0,none⟩ h2) (I z hc))).trans h2⟩
theorem PEn.own(kb nb:Nat)(B:Nat->Prop)(I:List Ch)(n:Nat)(R:∀k,B k->k<n):OwnFrom n (PEn kb nb B I):=by
 rintro pre A Y row ⟨cs,vo,nm,os,E,h2⟩ z J;exact⟨cs,vo,nm,os,E.grown R z J,h2⟩
def TJ(kb nb n:Nat)(w:World)(cs:Array Value)(vw:Value)(ws:List PW)(pre:List PX)(W:World):Prop:=∃z vw1 ws1,TI kb nb n w cs vw ws (pre.map PX.s) W z vw1 ws1
theorem TJ.own(kb nb n:Nat)(w:World)(cs:Array Value)(vw:Value)(ws:List PW)(m:Nat)(hm:w.heap.size<=m):OwnFrom m (TJ kb nb n w cs vw ws):=by
 rintro pre A A' row ⟨J,vw1,ws1,h⟩ R Y;obtain⟨M,z,I,E⟩:=lN R Y;exact⟨J,vw1,ws1,h.mZ z I (λk hk=>E k (by omega))⟩
def UJ(kb n:Nat)(J:World)(E:Array Value)(vw1:Value)(ws1:List PW)(pre:List BX)(F:Nat->Prop)(W:World):Prop:=∃z I,UI kb n J E vw1 ws1 (pre.map BX.b) W z I/\∀g,z.ownBlock=some g->¬F g
theorem UJ.own(kb n:Nat)(Y:World)(I:Array Value)(vw1:Value)(ws1:List PW)(F:Nat->Prop)(m:Nat)(hm:Y.heap.size<=m):OwnFrom m (λpre W=>UJ kb n Y I vw1 ws1 pre F W):=by
 rintro pre A A' row ⟨z,R,h,h'⟩ hg hr;obtain⟨M,E,hM,J⟩:=lN hg hr;exact⟨z,R,h.mZ E hM (λk hk=>J k (by omega)),h'⟩
theorem TI.base{w V:World}{vw:Value}{ws:List PW}{z:Value}(h:TI kb nb n V cs vw ws pre W z vw1 ws1)(E:Below w.heap.size w V)(J:nb<w.heap.size):TI kb nb n w cs vw ws pre W z vw1 ws1:=
 ⟨h.obj,h.row,h.txs,h.fst,λg I=>(h.own g I).imp id (λq=>aW E.size q),(jJ.below E jA _).trans h.jO (λ_ _ e=>e),h.nbm,J⟩
theorem Nl.jO{I:Option Obj}{E:Nat}{S:ByteArray}{pre z:List BX}{B:World}(h:Nl I E S pre A)(J:jJ M A B)(Y:¬M 1)(h2:¬M E):Nl I E S z B:=by
 have q0:=J.block 1 h.2.1.pos Y;obtain⟨g1,⟨⟨a0,a1,a2⟩,a3,a4,a5⟩,R⟩:=h;exact⟨q0.trans g1,⟨⟨(World.cell?_of_block q0).trans a0,(World.cell?_of_block q0).trans a1,(World.cell?_of_block q0).trans a2⟩,(World.cell?_of_block q0).trans a3,(World.cell?_of_block q0).trans a4,(World.cell?_of_block q0).trans a5⟩,(J.block E R.lt h2).trans R⟩
theorem UI.skip{R:World}{E:Array Value}{J:List Ba}{z:Value}{I:List PW}(h:UI kb n R E vw1 ws1 J W z I){b:Ba}(Y:¬b.epoch<=n):UI kb n R E vw1 ws1 (J++[b]) W z I:=
 ⟨h.obj,h.row,h.txs,by rw[vU,if_neg Y,fU];exact h.fst,h.own,h.jO⟩
theorem QB(n:Nat)(l:List Ba):(vK n l).length<=l.length:=by
 unfold vK;rw[aU];exact gU _ _
end Hm
end Go.Proofs.YtpibpdpedjinhaaGreatDoor
