import Derived.Test.YtpibpdpedjinhabGreatDoorP17
import Derived.Test.YtpibpdpedjinhabGreatDoorP29
set_option maxRecDepth 100000
set_option maxHeartbeats 4000000
set_option linter.all false
open Bool renaming false->aR,true->bB
open Go renaming Addr->fR,Code->eN,Frame->cT,Value->aD,World->X,execOp->bO,heap_alloc_new->cY,undef->aH
open Go.Code renaming seq->bL
open Go.Fence renaming wide->gL
open Go.IntKind renaming i64->aE
open Go.Obj renaming cells->aL
open Go.Operand renaming tmp->cR
open Go.Region renaming ready->fL,wanted->cS
open Go.RowKit.Below renaming heap_alloc->fY
open Go.Value renaming agg->gR,int->N,ownBlock->eE,pointer->aG,slice->aM
open Option renaming bind_eq_some_iff->pf,none->Z,some->M
namespace Go.Proofs.YtpibpdpedjinhabGreatDoor
namespace Hm
open Go.RowKit Go.Joins Go.Shelf
open Dv (X2 Cf Ba)
section
variable {v:aD}{a:Act}{d k:Nat}
noncomputable def ops2:Array Oper:=match Tryz.f31.body with
 |some (bL _ (bL _ (bL (.region _ ops _) _)))=>ops
 |_=>#[]
def ad8:∀q0 q1 q2 q3 q4 q5 q6 q7 q8 q9 q10 q11:Bool,fL .any ops2 #[q0,q1,q2,q3,q4,q5,q6,q7,q8,q9,q10,q11]=[]->q11=bB:=by decide+kernel
def MJ(q0 q1 q2 q3 q4 q5 q6 q7 q8 q9 q10 q11:Bool)(i:Nat):Bool:=decide (i<12/\(i=2->q1=bB)/\(i=3->q2=bB)/\(i=4->q3=bB/\q4=aR)/\(i=6->q5=bB/\q6=aR)/\(i=7->q6=bB/\q7=aR)/\(i=8->q4=bB/\q7=bB/\q8=aR)/\(i=9->q0=bB)/\(i=10->q9=bB)/\(i=11->q10=bB/\q8=bB/\q11=aR))
def Au:∀q2 q3 q4 q5 q6 q7 q8 q9 q10 q11:Bool,(fL .any ops2 #[bB,bB,q2,q3,q4,q5,q6,q7,q8,q9,q10,q11]).all (MJ bB bB q2 q3 q4 q5 q6 q7 q8 q9 q10 q11)=bB:=by decide+kernel
def yU:∀q2 q3 q4 q5 q6 q7 q8 q9 q10 q11:Bool,(fL .any ops2 #[bB,aR,q2,q3,q4,q5,q6,q7,q8,q9,q10,q11]).all (MJ bB aR q2 q3 q4 q5 q6 q7 q8 q9 q10 q11)=bB:=by decide+kernel
def yj:∀q2 q3 q4 q5 q6 q7 q8 q9 q10 q11:Bool,(fL .any ops2 #[aR,bB,q2,q3,q4,q5,q6,q7,q8,q9,q10,q11]).all (MJ aR bB q2 q3 q4 q5 q6 q7 q8 q9 q10 q11)=bB:=by decide+kernel
def xP:∀q2 q3 q4 q5 q6 q7 q8 q9 q10 q11:Bool,(fL .any ops2 #[aR,aR,q2,q3,q4,q5,q6,q7,q8,q9,q10,q11]).all (MJ aR aR q2 q3 q4 q5 q6 q7 q8 q9 q10 q11)=bB:=by decide+kernel
def afC:∀q0 q1 q2 q3 q4 q5 q6 q7 q8 q9 q10 q11:Bool,(fL .any ops2 #[q0,q1,q2,q3,q4,q5,q6,q7,q8,q9,q10,q11]).all (MJ q0 q1 q2 q3 q4 q5 q6 q7 q8 q9 q10 q11)=bB
 |true,bB=>Au
 |true,aR=>yU
 |false,bB=>yj
 |false,aR=>xP
section
variable {n:Nat}{P:Program}{ops:Array Oper}{Q:Exit->Act->X->Prop}{i:Nat}{o:Oper}{K:Act->X->Prop}{a:Act}{w w':X}
def lN(I:ops[i]? =M o)(E:o.guard=Z)(J:(bO a.eval o).run P w=.ok (.value v) w')(z:K (a.put o.dst v) w'):wpOpIn gL n P ops Q i K a w:=by unfold wpOpIn;rw[I];dsimp only;rw[ZD (by simp[cS,E])];refine⟨λ_ _=>trivial,?_⟩;rw[show Oper.semAt Fence.wide.round a.eval o=bO a.eval o from rfl,J];exact z
def Ii(I:ops[i]? =M o)(E:o.guard=Z)(J:(bO a.eval o).run P w=.ok .skip w')(z:K (a.put o.dst aH) w'):wpOpIn gL n P ops Q i K a w:=by unfold wpOpIn;rw[I];dsimp only;rw[ZD (by simp[cS,E])];refine⟨λ_ _=>trivial,?_⟩;rw[show Oper.semAt Fence.wide.round a.eval o=bO a.eval o from rfl,J];exact z
def Hg{f:FuncId}{args:Array aD}{R:Ending->X->Prop}(z:ops[i]? =M o)(J:o.guard=Z)(I:(bO a.eval o).run P w=.ok (.enter f args) w)(hc:Calls P f args w R)(E:∀e w',R e w'->∃v,e=.returned v/\K (a.put o.dst v) w'):wpOpIn gL n P ops Q i K a w:=by unfold wpOpIn;rw[z];dsimp only;rw[ZD (by simp[cS,J])];refine⟨λ_ _=>trivial,?_⟩;rw[show Oper.semAt Fence.wide.round a.eval o=bO a.eval o from rfl,I];refine⟨λh=>by simp[gL]at h,(callsIn_wide.2 hc).mono ?_⟩;intro e w' h;obtain⟨v,rfl,hk⟩:=E e w' h;exact hk
end
def jC{u:aD}(z:d≠k)(h:a.tmps[k]? =M u):(a.put (M d) v).tmps[k]? =M u:=by rw[I9,Zs z];exact h
def uH(hd:d<a.tmps.size):(a.put (M d) v).tmps[d]? =M v:=by rw[I9,ZD rfl,ZD hd]
def mP:(a.put (M d) v).tmps.size=a.tmps.size:=by unfold Act.put;simp
def Oc:(PQ.info? 102).map (λi=>(i.zero,i.size,i.bytes))=M (M (gR #[N aE 0,N aE 0,aM Z 0 0]),3,40):=XN
structure UB(W:X)(b2 b3 b4 kb n:Nat)(vu:aD)(xs:List aD)(u:X2)(ta:Option fR)(tn tc:Nat)(la:Option fR)(ln lc:Nat)(cs:Array aD):Prop where
 h2:W.heap[b2]? =M (aL #[ptr kb] 71 (0,0))
 h3:W.heap[b3]? =M (aL #[N aE u.id,N aE u.time,.slice ta tn tc,.slice la ln lc] 28 (0,0))
 hk:W.heap[kb]? =M (aL cs 100 (0,0))
 hw:cs[7]? =M vu
 row:Row W 102 3 vu n xs
 len:n<4294967296
 up:kW W u (.slice ta tn tc) (.slice la ln lc)
 logs:∀x,x∈u.logs->x.length<=16777216
 heads:lJ W
structure UR(W:X)(b2 b3 b4 kb n:Nat)(vu:aD)(xs:List aD)(u:X2)(ta:Option fR)(tn tc:Nat)(la:Option fR)(ln lc:Nat)(q0 q1 q2 q3 q4 q5 q6 q7 q8 q9 q10 q11:Bool)(a:Act)(w:X):Prop where
 sz:a.tmps.size=93
 t2:a.tmps[2]? =M (ptr b2)
 t3:a.tmps[3]? =M (ptr b3)
 t4:a.tmps[4]? =M (ptr b4)
 s0:q0=bB->a.tmps[16]? =M (ptr kb)
 s1:q1=bB->a.tmps[17]? =M (ptr kb)
 s2:q2=bB->a.tmps[18]? =M (ptr kb)
 s3:q3=bB->a.tmps[19]? =M (aG (M ⟨kb,7,Z⟩))
 s4:q4=bB->a.tmps[20]? =M (vu)
 s5:q5=bB->a.tmps[21]? =M (Ku u (.slice ta tn tc) (.slice la ln lc))
 s9:q9=bB->a.tmps[25]? =M (ptr kb)
 s10:q10=bB->a.tmps[26]? =M (aG (M ⟨kb,7,Z⟩))
 wA:q6=aR->w=W
 wB:q6=bB->q7=aR->∃da dc,Below W.heap.size W w/\Made w W.heap.size (.slice da (Dv.jR u).length dc) (Dv.jR u)/\a.tmps[22]? =M (gR #[N aE u.id,N aE u.time,.slice da (Dv.jR u).length dc])
 wC:q7=bB->q8=aR->∃da dc w6,Below W.heap.size W w6/\Made w6 W.heap.size (.slice da (Dv.jR u).length dc) (Dv.jR u)/\w=w6.alloc (aL #[N aE u.id,N aE u.time,.slice da (Dv.jR u).length dc] 102)/\a.tmps[23]? =M (aM (M ⟨w6.heap.size,0,Z⟩) 1 1)
 wD:q8=bB->∃da dc w6 g off cap w1,Below W.heap.size W w6/\Made w6 W.heap.size (.slice da (Dv.jR u).length dc) (Dv.jR u)/\Row w1 102 3 (aM (M ⟨g,off,Z⟩) (n+1) cap) (n+1) (xs++[N aE u.id,N aE u.time,.slice da (Dv.jR u).length dc])/\Grew vu g (w6.alloc (aL #[N aE u.id,N aE u.time,.slice da (Dv.jR u).length dc] 102)) w1/\a.tmps[24]? =M (aM (M ⟨g,off,Z⟩) (n+1) cap)/\w=if q11=bB then w1.setCell ⟨kb,7,Z⟩ (aM (M ⟨g,off,Z⟩) (n+1) cap)else w1
 c7:q7=bB->q6=bB
 c8:q8=bB->q4=bB/\q7=bB
 c11:q11=bB->q8=bB
section
variable {W:X}{b2 b3 b4 kb n:Nat}{vu:aD}{xs:List aD}{u:X2}{ta:Option fR}{tn tc:Nat}{la:Option fR}{ln lc:Nat}{cs:Array aD}{q0 q1 q2 q3 q4 q5 q6 q7 q8 q9 q10 q11:Bool}{a:Act}{w:X}
def UB.low(hB:UB W b2 b3 b4 kb n vu xs u ta tn tc la ln lc cs)(h:UR W b2 b3 b4 kb n vu xs u ta tn tc la ln lc q0 q1 q2 q3 q4 q5 q6 q7 q8 q9 q10 q11 a w){c:Array aD}{t:Nat}{R:Nat×Nat}(hk:W.heap[k]? =M (aL c t R))(E:t≠100\/q8=aR)(h2:t≠102):w.heap[k]? =M (aL c t R):=by
 have I:=(jE hk)
 cases h6:q6 with
 |false=>rw[h.wA h6];exact hk
 |true=>
  cases Y:q7 with
  |false=>
   obtain⟨da,dc,z,_⟩:=h.wB h6 Y;exact(z.block k I).trans hk
  |true=>
   cases J:q8 with
   |false=>
    obtain⟨da,dc,w6,z,_,hw,_⟩:=h.wC Y J;rw[hw];exact(aZ _ _ _ (aP I z.size)).trans ((z.block k I).trans hk)
   |true=>
    obtain⟨da,dc,w6,g,off,cap,w1,z,_,hr,hg,_,hw⟩:=h.wD J;have h3:=hg.keep ((hB.row.below z).below ((aJ _ w6).alloc jB _)) ((aZ _ _ _ (aP I z.size)).trans ((z.block k I).trans hk)) h2;rw[hw];split
    .refine(aW _ _ _ _ (λe=>?_)).trans h3;obtain E|E:=E
     .have e:k=kb:=e;rw[e,hB.hk]at hk;simp at hk;exact E hk.2.1.symm
     .rw[J]at E;cases E
    .exact h3
def aaU{m:Nat}{Q:Exit->Act->X->Prop}(hB:UB W b2 b3 b4 kb n vu xs u ta tn tc la ln lc cs)(an:a.tmps.size=93)(aq:a.tmps[2]? =M (ptr b2))(ar:a.tmps[3]? =M (ptr b3))(av:a.tmps[4]? =M (ptr b4))(hQ:∀a' da dc w6 g off cap w1,a'.tmps.size=93->a'.tmps[2]? =M (ptr b2)->a'.tmps[3]? =M (ptr b3)->a'.tmps[4]? =M (ptr b4)->a'.defers=a.defers->Below W.heap.size W w6->Made w6 W.heap.size (.slice da (Dv.jR u).length dc) (Dv.jR u)->Row w1 102 3 (aM (M ⟨g,off,Z⟩) (n+1) cap) (n+1) (xs++[N aE u.id,N aE u.time,.slice da (Dv.jR u).length dc])->Grew vu g (w6.alloc (aL #[N aE u.id,N aE u.time,.slice da (Dv.jR u).length dc] 102)) w1->Q .normal a' (w1.setCell ⟨kb,7,Z⟩ (aM (M ⟨g,off,Z⟩) (n+1) cap))):wpAnyIn gL m PQ .any ops2 Q 12 (Array.replicate 12 aR) a W:=by
 obtain⟨i0,hi,ao,au,ap⟩:=info_parts Oc;obtain⟨af,ag,ah⟩:=hB.row.slice;refine uJ (λL a' w=>a'.defers=a.defers/\∃q0 q1 q2 q3 q4 q5 q6 q7 q8 q9 q10 q11,L=#[q0,q1,q2,q3,q4,q5,q6,q7,q8,q9,q10,q11]/\UR W b2 b3 b4 kb n vu xs u ta tn tc la ln lc q0 q1 q2 q3 q4 q5 q6 q7 q8 q9 q10 q11 a' w) ?_ ?_ 12 _ a W aB ⟨rfl,aR,aR,aR,aR,aR,aR,aR,aR,aR,aR,aR,aR,rfl,?_⟩
 .rintro L a' w ⟨Y,q0,q1,q2,q3,q4,q5,q6,q7,q8,q9,q10,q11,rfl,h⟩ hr;have ac:=ad8 q0 q1 q2 q3 q4 q5 q6 q7 q8 q9 q10 q11 hr;obtain⟨da,dc,w6,g,off,cap,w1,h1,h2,h3,h4,h5,h6⟩:=h.wD (h.c11 ac);rw[h6,ZD ac];exact hQ _ _ _ _ _ _ _ _ h.sz h.t2 h.t3 h.t4 Y h1 h2 h3 h4
 .rintro L a' w i ⟨Y,q0,q1,q2,q3,q4,q5,q6,q7,q8,q9,q10,q11,rfl,h⟩ hr;have hn:=Z2 (fF.1 (afC q0 q1 q2 q3 q4 q5 q6 q7 q8 q9 q10 q11) i hr);have h2:=hB.low h hB.h2 (.inl aB) aB;have h3:=hB.low h hB.h3 (.inl aB) aB;obtain⟨ak,d2,d3,d4,d6,d7,d8,d9,ay,aa⟩:=hn
  match i,ak with
  |0,_=>
   obtain⟨o,ho,I,z,hg⟩:∃o,ops2[0]? =M o/\o.op=.load 71 (cR 2)/\o.dst=M 16/\o.guard=Z:=⟨_,rfl,rfl,rfl,rfl⟩
   have hc:=kJ h2;unfold ptr at hc
   refine lN (v:=aG (M ⟨kb,0,Z⟩)) (w':=w) ho hg (by
    unfold bO;simp only[I,kD h.t2,ptr];simp[go_sem,hc]) ?_
   rw[z];exact⟨Y,bB,q1,q2,q3,q4,q5,q6,q7,q8,q9,q10,q11,rfl,⟨by rw[mP];exact h.sz,jC aB h.t2,jC aB h.t3,jC aB h.t4,λ_=>uH (d:=16) (by rw[h.sz];decide),λe=>jC aB (h.s1 e),λe=>jC aB (h.s2 e),λe=>jC aB (h.s3 e),λe=>jC aB (h.s4 e),λe=>jC aB (h.s5 e),λe=>jC aB (h.s9 e),λe=>jC aB (h.s10 e),h.wA,λe R=>(by obtain⟨da,dc,r1,r2,E⟩:=h.wB e R;exact⟨da,dc,r1,r2,jC aB E⟩),λe R=>(by obtain⟨da,dc,w6,r1,r2,E,J⟩:=h.wC e R;exact⟨da,dc,w6,r1,r2,E,jC aB J⟩),λe=>(by obtain⟨da,dc,w6,g,off,cap,w1,r1,r2,E,J,r5,r6⟩:=h.wD e;exact⟨da,dc,w6,g,off,cap,w1,r1,r2,E,J,jC aB r5,r6⟩),h.c7,h.c8,h.c11⟩⟩
  |1,_=>
   obtain⟨o,ho,I,z,hg⟩:∃o,ops2[1]? =M o/\o.op=.load 71 (cR 2)/\o.dst=M 17/\o.guard=Z:=⟨_,rfl,rfl,rfl,rfl⟩
   have hc:=kJ h2;unfold ptr at hc
   refine lN (v:=aG (M ⟨kb,0,Z⟩)) (w':=w) ho hg (by
    unfold bO;simp only[I,kD h.t2,ptr];simp[go_sem,hc]) ?_
   rw[z];exact⟨Y,q0,bB,q2,q3,q4,q5,q6,q7,q8,q9,q10,q11,rfl,⟨by rw[mP];exact h.sz,jC aB h.t2,jC aB h.t3,jC aB h.t4,λe=>jC aB (h.s0 e),λ_=>uH (d:=17) (by rw[h.sz];decide),λe=>jC aB (h.s2 e),λe=>jC aB (h.s3 e),λe=>jC aB (h.s4 e),λe=>jC aB (h.s5 e),λe=>jC aB (h.s9 e),λe=>jC aB (h.s10 e),h.wA,λe R=>(by obtain⟨da,dc,r1,r2,E⟩:=h.wB e R;exact⟨da,dc,r1,r2,jC aB E⟩),λe R=>(by obtain⟨da,dc,w6,r1,r2,E,J⟩:=h.wC e R;exact⟨da,dc,w6,r1,r2,E,jC aB J⟩),λe=>(by obtain⟨da,dc,w6,g,off,cap,w1,r1,r2,E,J,r5,r6⟩:=h.wD e;exact⟨da,dc,w6,g,off,cap,w1,r1,r2,E,J,jC aB r5,r6⟩),h.c7,h.c8,h.c11⟩⟩
  |2,_=>
   obtain⟨o,ho,I,z,hg⟩:∃o,ops2[2]? =M o/\o.op=.nilCheck (cR 17)/\o.dst=M 18/\o.guard=Z:=⟨_,rfl,rfl,rfl,rfl⟩
   refine lN (v:=aG (M ⟨kb,0,Z⟩)) (w':=w) ho hg (by
    unfold bO;simp only[I,kD (h.s1 (d2 rfl)),ptr];simp[go_sem]) ?_
   rw[z];exact⟨Y,q0,q1,bB,q3,q4,q5,q6,q7,q8,q9,q10,q11,rfl,⟨by rw[mP];exact h.sz,jC aB h.t2,jC aB h.t3,jC aB h.t4,λe=>jC aB (h.s0 e),λe=>jC aB (h.s1 e),λ_=>uH (d:=18) (by rw[h.sz];decide),λe=>jC aB (h.s3 e),λe=>jC aB (h.s4 e),λe=>jC aB (h.s5 e),λe=>jC aB (h.s9 e),λe=>jC aB (h.s10 e),h.wA,λe R=>(by obtain⟨da,dc,r1,r2,E⟩:=h.wB e R;exact⟨da,dc,r1,r2,jC aB E⟩),λe R=>(by obtain⟨da,dc,w6,r1,r2,E,J⟩:=h.wC e R;exact⟨da,dc,w6,r1,r2,E,jC aB J⟩),λe=>(by obtain⟨da,dc,w6,g,off,cap,w1,r1,r2,E,J,r5,r6⟩:=h.wD e;exact⟨da,dc,w6,g,off,cap,w1,r1,r2,E,J,jC aB r5,r6⟩),h.c7,h.c8,h.c11⟩⟩
  |3,_=>
   obtain⟨o,ho,I,z,hg⟩:∃o,ops2[3]? =M o/\o.op=.fieldAddr 100 (cR 18) 1/\o.dst=M 19/\o.guard=Z:=⟨_,rfl,rfl,rfl,rfl⟩
   refine lN (v:=aG (M ⟨kb,7,Z⟩)) (w':=w) ho hg (by
    unfold bO;simp only[I,kD (h.s2 (d3 rfl)),ptr];simp[go_sem]) ?_
   rw[z];exact⟨Y,q0,q1,q2,bB,q4,q5,q6,q7,q8,q9,q10,q11,rfl,⟨by rw[mP];exact h.sz,jC aB h.t2,jC aB h.t3,jC aB h.t4,λe=>jC aB (h.s0 e),λe=>jC aB (h.s1 e),λe=>jC aB (h.s2 e),λ_=>uH (d:=19) (by rw[h.sz];decide),λe=>jC aB (h.s4 e),λe=>jC aB (h.s5 e),λe=>jC aB (h.s9 e),λe=>jC aB (h.s10 e),h.wA,λe R=>(by obtain⟨da,dc,r1,r2,E⟩:=h.wB e R;exact⟨da,dc,r1,r2,jC aB E⟩),λe R=>(by obtain⟨da,dc,w6,r1,r2,E,J⟩:=h.wC e R;exact⟨da,dc,w6,r1,r2,E,jC aB J⟩),λe=>(by obtain⟨da,dc,w6,g,off,cap,w1,r1,r2,E,J,r5,r6⟩:=h.wD e;exact⟨da,dc,w6,g,off,cap,w1,r1,r2,E,J,jC aB r5,r6⟩),h.c7,h.c8,h.c11⟩⟩
  |4,_=>
   obtain⟨o,ho,I,z,hg⟩:∃o,ops2[4]? =M o/\o.op=.load 97 (cR 19)/\o.dst=M 20/\o.guard=Z:=⟨_,rfl,rfl,rfl,rfl⟩
   have h8:q8=aR:=by
    cases h8:q8 with
    |false=>rfl
    |true=>have:=(h.c8 h8).1;rw[(d4 rfl).2]at this;cases this
   have ae:=hB.low h hB.hk (.inr h8) aB;have hc:w.cell? ⟨kb,7,Z⟩=M (.slice af n ag):=by rw[aI ae,hB.hw,ah]
   refine lN (v:=.slice af n ag) (w':=w) ho hg (by
    unfold bO;simp only[I,kD (h.s3 (d4 rfl).1)];simp[go_sem,hc]) ?_
   rw[z];exact⟨Y,q0,q1,q2,q3,bB,q5,q6,q7,q8,q9,q10,q11,rfl,⟨by rw[mP];exact h.sz,jC aB h.t2,jC aB h.t3,jC aB h.t4,λe=>jC aB (h.s0 e),λe=>jC aB (h.s1 e),λe=>jC aB (h.s2 e),λe=>jC aB (h.s3 e),λ_=>(by rw[ah];exact uH (d:=20) (by rw[h.sz];decide)),λe=>jC aB (h.s5 e),λe=>jC aB (h.s9 e),λe=>jC aB (h.s10 e),h.wA,λe R=>(by obtain⟨da,dc,r1,r2,E⟩:=h.wB e R;exact⟨da,dc,r1,r2,jC aB E⟩),λe R=>(by obtain⟨da,dc,w6,r1,r2,E,J⟩:=h.wC e R;exact⟨da,dc,w6,r1,r2,E,jC aB J⟩),λe=>(by obtain⟨da,dc,w6,g,off,cap,w1,r1,r2,E,J,r5,r6⟩:=h.wD e;exact⟨da,dc,w6,g,off,cap,w1,r1,r2,E,J,jC aB r5,r6⟩),h.c7,λe=>⟨rfl,(h.c8 e).2⟩,h.c11⟩⟩
  |5,_=>
   obtain⟨o,ho,I,z,hg⟩:∃o,ops2[5]? =M o/\o.op=.load 28 (cR 3)/\o.dst=M 21/\o.guard=Z:=⟨_,rfl,rfl,rfl,rfl⟩
   obtain⟨c0,c1,c2,c3⟩:=cells4 h3
   refine lN (v:=gR #[N aE u.id,N aE u.time,.slice ta tn tc,.slice la ln lc]) (w':=w) ho hg (by
    unfold bO;simp only[I,kD h.t3,ptr];simp[go_sem,c0,c1,c2,c3]) ?_
   rw[z];exact⟨Y,q0,q1,q2,q3,q4,bB,q6,q7,q8,q9,q10,q11,rfl,⟨by rw[mP];exact h.sz,jC aB h.t2,jC aB h.t3,jC aB h.t4,λe=>jC aB (h.s0 e),λe=>jC aB (h.s1 e),λe=>jC aB (h.s2 e),λe=>jC aB (h.s3 e),λe=>jC aB (h.s4 e),λ_=>uH (d:=21) (by rw[h.sz];decide),λe=>jC aB (h.s9 e),λe=>jC aB (h.s10 e),h.wA,λe R=>(by obtain⟨da,dc,r1,r2,E⟩:=h.wB e R;exact⟨da,dc,r1,r2,jC aB E⟩),λe R=>(by obtain⟨da,dc,w6,r1,r2,E,J⟩:=h.wC e R;exact⟨da,dc,w6,r1,r2,E,jC aB J⟩),λe=>(by obtain⟨da,dc,w6,g,off,cap,w1,r1,r2,E,J,r5,r6⟩:=h.wD e;exact⟨da,dc,w6,g,off,cap,w1,r1,r2,E,J,jC aB r5,r6⟩),h.c7,h.c8,h.c11⟩⟩
  |6,_=>
   obtain⟨o,ho,I,z,hg⟩:∃o,ops2[6]? =M o/\o.op=.call { callee:=.value (.func 48),args:=#[cR 21],argTypes:=#[28] }/\o.dst=M 22/\o.guard=Z:=⟨_,rfl,rfl,rfl,rfl⟩
   have h7:q7=aR:=by
    cases h7:q7 with
    |false=>rfl
    |true=>have:=h.c7 h7;rw[(d6 rfl).2]at this;cases this
   have h8:q8=aR:=by
    cases h8:q8 with
    |false=>rfl
    |true=>have:=(h.c8 h8).2;rw[h7]at this;cases this
   have hw:=h.wA (d6 rfl).2;subst hw;have aj:=h.s5 (d6 rfl).1;unfold Ku at aj;have ai:=MB u _ _ w hB.up hB.logs hB.heads;unfold Ku at ai
   refine Hg (f:=48) (args:=#[.agg _]) ho hg (by
    unfold bO;simp only[I];simp[resolve,invoke,aj,Act.eval,go_sem]) ai ?_
   rintro e w' ⟨da,dc,rfl,hm,hb⟩;refine⟨_,rfl,?_⟩;rw[z];exact⟨Y,q0,q1,q2,q3,q4,q5,bB,q7,q8,q9,q10,q11,rfl,⟨by rw[mP];exact h.sz,jC aB h.t2,jC aB h.t3,jC aB h.t4,λe=>jC aB (h.s0 e),λe=>jC aB (h.s1 e),λe=>jC aB (h.s2 e),λe=>jC aB (h.s3 e),λe=>jC aB (h.s4 e),λe=>jC aB (h.s5 e),λe=>jC aB (h.s9 e),λe=>jC aB (h.s10 e),λe=>(by cases e),λ_ _=>⟨da,dc,hb,hm,uH (d:=22) (by rw[h.sz];decide)⟩,λe=>(by rw[h7]at e;cases e),λe=>(by rw[h8]at e;cases e),λ_=>rfl,h.c8,h.c11⟩⟩
  |7,_=>
   obtain⟨o,ho,I,z,hg⟩:∃o,ops2[7]? =M o/\o.op=.buildSlice 97 1 #[(0,cR 22)]/\o.dst=M 23/\o.guard=Z:=⟨_,rfl,rfl,rfl,rfl⟩
   obtain⟨da,dc,r1,r2,E⟩:=h.wB (d7 rfl).1 (d7 rfl).2
   have h8:q8=aR:=by
    cases h8:q8 with
    |false=>rfl
    |true=>have:=(h.c8 h8).2;rw[(d7 rfl).2]at this;cases this
   refine lN (v:=aM (M ⟨w.heap.size,0,Z⟩) 1 1) (w':=w.alloc (aL #[N aE u.id,N aE u.time,.slice da (Dv.jR u).length dc] 102)) ho hg (by
    unfold bO;simp only[I];simp[go_sem,E]) ?_
   rw[z];exact⟨Y,q0,q1,q2,q3,q4,q5,q6,bB,q8,q9,q10,q11,rfl,⟨by rw[mP];exact h.sz,jC aB h.t2,jC aB h.t3,jC aB h.t4,λe=>jC aB (h.s0 e),λe=>jC aB (h.s1 e),λe=>jC aB (h.s2 e),λe=>jC aB (h.s3 e),λe=>jC aB (h.s4 e),λe=>jC aB (h.s5 e),λe=>jC aB (h.s9 e),λe=>jC aB (h.s10 e),λe=>(by rw[(d7 rfl).1]at e;cases e),λ_ e=>(by cases e),λ_ _=>⟨da,dc,w,r1,r2,rfl,uH (d:=23) (by rw[h.sz];decide)⟩,λe=>(by rw[h8]at e;cases e),λ_=>(d7 rfl).1,λe=>⟨(h.c8 e).1,rfl⟩,h.c11⟩⟩
  |8,_=>
   obtain⟨o,ho,I,z,hg⟩:∃o,ops2[8]? =M o/\o.op=.call { callee:=.builtin .append,args:=#[cR 20,cR 23],argTypes:=#[97,97] }/\o.dst=M 24/\o.guard=Z:=⟨_,rfl,rfl,rfl,rfl⟩
   obtain⟨da,dc,w6,r1,r2,E,J⟩:=h.wC (d8 rfl).2.1 (d8 rfl).2.2
   have ac:q11=aR:=by
    cases ac:q11 with
    |false=>rfl
    |true=>have:=h.c11 ac;rw[(d8 rfl).2.2]at this;cases this
   subst E;obtain⟨v',w1,hr,r5,⟨g,off,cap,rfl⟩,r6⟩:=((hB.row.below r1).below ((aJ _ w6).alloc jB (aL #[N aE u.id,N aE u.time,.slice da (Dv.jR u).length dc] 102))).append (P:=PQ) 97 o.type i0 _ 40 (uq Tryz.underlying97) hi ao au ap (by rfl) aB ⟨w6.heap.size,0,Z⟩ 1 1 [N aE u.id,N aE u.time,.slice da (Dv.jR u).length dc] aB (by rfl) (by intro j u hj;match j,hj with|0,hj=>(simp at hj;subst hj;simp[Addr.add])|1,hj=>(simp at hj;subst hj;simp[Addr.add])|2,hj=>(simp at hj;subst hj;simp[Addr.add])) (by intro u hu;simp at hu;rcases hu with rfl|rfl|rfl<;>rfl) (by have:=hB.len;unfold maxLen;omega) (by have:=hB.len;omega)
   have aw:Grew vu g (w6.alloc (aL #[N aE u.id,N aE u.time,.slice da (Dv.jR u).length dc] 102)) w1:=by
    obtain⟨e1,R,e3⟩|⟨e1,R,e3⟩:=r6
    .have am:vu.ownBlock=M g:=e1.symm;exact .inl ⟨am,by rw[<-am];exact R,e3⟩
    .exact .inr ⟨by simpa[eE]using e1,R,e3⟩
   refine lN (v:=aM (M ⟨g,off,Z⟩) (n+1) cap) (w':=w1) ho hg (by
    unfold bO;simp only[I];simp[resolve,invoke,builtin,kD (h.s4 (d8 rfl).1),kD J,hr,Result.andThen]) ?_
   rw[z];exact⟨Y,q0,q1,q2,q3,q4,q5,q6,q7,bB,q9,q10,q11,rfl,⟨by rw[mP];exact h.sz,jC aB h.t2,jC aB h.t3,jC aB h.t4,λe=>jC aB (h.s0 e),λe=>jC aB (h.s1 e),λe=>jC aB (h.s2 e),λe=>jC aB (h.s3 e),λe=>jC aB (h.s4 e),λe=>jC aB (h.s5 e),λe=>jC aB (h.s9 e),λe=>jC aB (h.s10 e),λe=>(by rw[h.c7 (d8 rfl).2.1]at e;cases e),λ_ e=>(by rw[(d8 rfl).2.1]at e;cases e),λ_ e=>(by cases e),λ_=>⟨da,dc,w6,g,off,cap,w1,r1,r2,r5,aw,uH (d:=24) (by rw[h.sz];decide),by rw[Zs (by rw[ac];simp)]⟩,h.c7,λ_=>⟨(d8 rfl).1,(d8 rfl).2.1⟩,λ_=>rfl⟩⟩
  |9,_=>
   obtain⟨o,ho,I,z,hg⟩:∃o,ops2[9]? =M o/\o.op=.nilCheck (cR 16)/\o.dst=M 25/\o.guard=Z:=⟨_,rfl,rfl,rfl,rfl⟩
   refine lN (v:=aG (M ⟨kb,0,Z⟩)) (w':=w) ho hg (by
    unfold bO;simp only[I,kD (h.s0 (d9 rfl)),ptr];simp[go_sem]) ?_
   rw[z];exact⟨Y,q0,q1,q2,q3,q4,q5,q6,q7,q8,bB,q10,q11,rfl,⟨by rw[mP];exact h.sz,jC aB h.t2,jC aB h.t3,jC aB h.t4,λe=>jC aB (h.s0 e),λe=>jC aB (h.s1 e),λe=>jC aB (h.s2 e),λe=>jC aB (h.s3 e),λe=>jC aB (h.s4 e),λe=>jC aB (h.s5 e),λ_=>uH (d:=25) (by rw[h.sz];decide),λe=>jC aB (h.s10 e),h.wA,λe R=>(by obtain⟨da,dc,r1,r2,E⟩:=h.wB e R;exact⟨da,dc,r1,r2,jC aB E⟩),λe R=>(by obtain⟨da,dc,w6,r1,r2,E,J⟩:=h.wC e R;exact⟨da,dc,w6,r1,r2,E,jC aB J⟩),λe=>(by obtain⟨da,dc,w6,g,off,cap,w1,r1,r2,E,J,r5,r6⟩:=h.wD e;exact⟨da,dc,w6,g,off,cap,w1,r1,r2,E,J,jC aB r5,r6⟩),h.c7,h.c8,h.c11⟩⟩
  |10,_=>
   obtain⟨o,ho,I,z,hg⟩:∃o,ops2[10]? =M o/\o.op=.fieldAddr 100 (cR 25) 1/\o.dst=M 26/\o.guard=Z:=⟨_,rfl,rfl,rfl,rfl⟩
   refine lN (v:=aG (M ⟨kb,7,Z⟩)) (w':=w) ho hg (by
    unfold bO;simp only[I,kD (h.s9 (ay rfl)),ptr];simp[go_sem]) ?_
   rw[z];exact⟨Y,q0,q1,q2,q3,q4,q5,q6,q7,q8,q9,bB,q11,rfl,⟨by rw[mP];exact h.sz,jC aB h.t2,jC aB h.t3,jC aB h.t4,λe=>jC aB (h.s0 e),λe=>jC aB (h.s1 e),λe=>jC aB (h.s2 e),λe=>jC aB (h.s3 e),λe=>jC aB (h.s4 e),λe=>jC aB (h.s5 e),λe=>jC aB (h.s9 e),λ_=>uH (d:=26) (by rw[h.sz];decide),h.wA,λe R=>(by obtain⟨da,dc,r1,r2,E⟩:=h.wB e R;exact⟨da,dc,r1,r2,jC aB E⟩),λe R=>(by obtain⟨da,dc,w6,r1,r2,E,J⟩:=h.wC e R;exact⟨da,dc,w6,r1,r2,E,jC aB J⟩),λe=>(by obtain⟨da,dc,w6,g,off,cap,w1,r1,r2,E,J,r5,r6⟩:=h.wD e;exact⟨da,dc,w6,g,off,cap,w1,r1,r2,E,J,jC aB r5,r6⟩),h.c7,h.c8,h.c11⟩⟩
  |11,_=>
   obtain⟨o,ho,I,z,hg⟩:∃o,ops2[11]? =M o/\o.op=.store 97 (cR 26) (cR 24)/\o.dst=Z/\o.guard=Z:=⟨_,rfl,rfl,rfl,rfl⟩
   obtain⟨da,dc,w6,g,off,cap,w1,r1,r2,E,J,r5,r6⟩:=h.wD (aa rfl).2.1;rw[Zs (by rw[(aa rfl).2.2];simp)]at r6;subst r6;have ae:=J.keep ((hB.row.below r1).below ((aJ _ w6).alloc jB _)) ((aZ _ _ _ (aP (jE hB.hk) r1.size)).trans ((r1.block _ (jE hB.hk)).trans hB.hk)) aB;have hc:w.cell? ⟨kb,7,Z⟩=M (.slice af n ag):=by rw[aI ae,hB.hw,ah]
   have hz:=aQ ae 7
   refine Ii (w':=w.setCell ⟨kb,7,Z⟩ (aM (M ⟨g,off,Z⟩) (n+1) cap)) ho hg (by
    unfold bO;simp only[I,kD (h.s10 (aa rfl).1),kD r5];simp[go_sem,stored,hc,hz]) ?_
   rw[z];have h7:=(h.c8 (aa rfl).2.1).2;exact⟨Y,q0,q1,q2,q3,q4,q5,q6,q7,q8,q9,q10,bB,rfl,⟨h.sz,h.t2,h.t3,h.t4,h.s0,h.s1,h.s2,h.s3,h.s4,h.s5,h.s9,h.s10,λe=>(by rw[h.c7 h7]at e;cases e),λ_ e=>(by rw[h7]at e;cases e),λ_ e=>(by rw[(aa rfl).2.1]at e;cases e),λ_=>⟨da,dc,w6,g,off,cap,w,r1,r2,E,J,r5,by rw[ZD rfl]⟩,h.c7,h.c8,λ_=>(aa rfl).2.1⟩⟩
 .exact⟨an,aq,ar,av,λe=>(by cases e),λe=>(by cases e),λe=>(by cases e),λe=>(by cases e),λe=>(by cases e),λe=>(by cases e),λe=>(by cases e),λe=>(by cases e),λ_=>rfl,λe=>(by cases e),λe=>(by cases e),λe=>(by cases e),λe=>(by cases e),λe=>(by cases e),λe=>(by cases e)⟩
end
end
open Dv (X2 Cf Ba Ch Tx)
open Fr (F)
section
variable {most:Int}{cs:List Ch}
def expired(c:Cf)(n:Nat)(cs:List Ch):cs.filter (λx=>!decide ((x.opened:Int)<n-c.timeout))=cs.filter (λx=>decide ((n:Int)-(x.opened:Int)<=c.timeout)):=by grind
def Bd{α:Type}:∀(l:List (List α))(fs:Nat->List α),(∀j x,l[j]? =M x->fs j=x)->(List.range l.length).flatMap fs=l.flatten
 |[],_,_=>rfl
 |x::l,fs,h=>by
  have E:=Bd l (λj=>fs (j+1)) (λj y z=>h (j+1) y (by simpa using z));rw[aU,List.range_succ_eq_map,gY,List.flatMap_map,h 0 x aC,List.flatten_cons]
  congr 1
def MK(c:Cf)(txs:List Tx)(fs:Nat->List F)(z:∀j t,txs[j]? =M t->fs j=Dv.qP c t):lT fs txs.length=Dv.heard c txs:=by
 unfold lT Dv.heard
 have:=Bd (txs.map (Dv.qP c)) fs (λj x E=>by
  grind)
 grind
def Wu(c:Cf)(u:X2)(n:Nat)(cs:List Ch)(wait:List Ba)(fs:Nat->List F)(E:∀j t,u.txs[j]? =M t->fs j=Dv.qP c t)(l2:List Ch)(z:l2=(lT fs u.txs.length).foldl (Dv.frame c.most n) (cs.filter (λx=>!decide ((x.opened:Int)<n-c.timeout)))):Dv.take c u n cs wait=((Dv.pull l2).2,wait++(Dv.pull l2).1.flatMap (λs=>Dv.reads s n)):=by
 rw[z,MK c u.txs fs E,expired];rfl
def oN(x:F)(l:List F):Dv.size (x::l)=x.data.length+Dv.size l:=by simp[Dv.size]
def CZ(k:Nat):∀l:List F,Dv.size (l.filter (λx=>decide (x.num<k+1)))=Dv.size (l.filter (λx=>decide (x.num<k)))+Dv.size (l.filter (λx=>x.num == k))
 |[]=>rfl
 |x::l=>by
  have z:=CZ k l;by_cases E:x.num<k
  .have h2:x.num<k+1:=by omega
   have h3:(x.num == k)=aR:=aF
   simp only[eG,E,h2,h3,decide_true,if_true,bU,if_false,oN,z];omega
  .by_cases h2:x.num=k
   .have h3:(x.num == k)=bB:=by simp[h2]
    have h4:x.num<k+1:=aA
    simp only[eG,E,h4,h3,decide_true,decide_false,if_true,bU,if_false,oN,z];omega
   grind
def XG(k:Nat){d:List UInt8}:∀l:List F,Dv.has l k=M d->d.length<=Dv.size (l.filter (λx=>x.num == k))
 |[],h=>by simp[Dv.has]at h
 |x::l,h=>by
  by_cases z:(x.num == k)=bB
  .unfold Dv.has at h;rw[List.find?_cons_of_pos (by simpa using z)]at h;simp at h;rw[List.filter_cons_of_pos (by simpa using z),oN,<-h];omega
  .have E:=XG k (d:=d) l (by
    unfold Dv.has at h⊢
    grind)
   grind
def Ko(l:List F):∀(k:Nat)(s:List UInt8),Dv.rP l k=M s->s.length<=Dv.size (l.filter (λx=>decide (x.num<k)))
 |0,s,h=>by
  simp[Dv.rP]at h;rw[h];simp
 |k+1,s,h=>by
  rw[Dv.rP,pf]at h;obtain⟨s',z,h2⟩:=h;rw[bI]at h2;obtain⟨d,h3,rfl⟩:=h2;have E:=Ko l k s' z;have I:=XG k l h3;rw[CZ,aS];omega
def zS(p:F->Bool):∀l:List F,Dv.size (l.filter p)<=Dv.size l
 |[]=>jB
 |x::l=>by
  have z:=zS p l;rw[eG];split
  .rw[oN,oN];omega
  .rw[oN];omega
def Yz{l:List F}{s:List UInt8}(h:Dv.bytes l=M s):s.length<=Dv.size l:=by unfold Dv.bytes at h;rw[pf]at h;obtain⟨n,_,h⟩:=h;exact bH (Ko l _ s h) (zS _ l)
def Fits(most:Int)(cs:List Ch):Prop:=∀c,c∈cs->(Dv.size c.l:Int)<=most
def zH(z:0<=most){c:Ch}{f:F}(h:(Dv.size c.l:Int)<=most):(Dv.size (Dv.joined most c f).l:Int)<=most:=by
 unfold Dv.joined;split
 .exact h
 .split
  .exact z
  grind
def O4(E:0<=most){n:Nat}{f:F}(h:Fits most cs):Fits most (Dv.frame most n cs f):=by
 intro c hc;unfold Dv.frame at hc;split at hc
 .obtain hc|hc:=dM.1 hc
  .exact h c (fU.1 hc).1
  .rw[dK.1 hc];exact zH E E
 .obtain⟨I,z,rfl⟩:=bM.1 hc;split
  .exact zH E (h I z)
  .exact h I z
def FN{most:Int}(z:0<=most){n:Nat}:∀(l:List F){cs:List Ch},Fits most cs->Fits most (l.foldl (Dv.frame most n) cs)
 |[],_,h=>h
 |_::l,_,h=>FN z l (O4 z h)
def Kw(h:Fits most cs)(p:Ch->Bool):Fits most (cs.filter p):=λc hc=>h c (fU.1 hc).1
def zf{most:Int}:∀{cs:List Ch},Fits most cs->(∀s,s∈(Dv.pull cs).1->(s.length:Int)<=most)/\Fits most (Dv.pull cs).2
 |[],_=>⟨λs hs=>by simp[Dv.pull]at hs,λc hc=>by simp[Dv.pull]at hc⟩
 |c::cs,h=>by
  have z:=zf (cs:=cs) (λx I=>h x (cZ _ I));rw[Dv.pull];split
  .grind
  .rename_i s E;refine⟨λt ht=>?_,z.2⟩;obtain rfl|ht:=dD.1 ht
   .have:=Yz E;have:=h c dQ;omega
   .exact z.1 t ht
end
open Dv (X2 Cf Ba Ch)
section
variable {XS:Nat->Prop}{k t:Nat}{cs:Array aD}{fz:Nat×Nat}{vo':aD}{nm':AL}{os':List PC}
structure TS(w:X)(kb nb:Nat)(c:Cf)(vu:aD)(us:List PB)(dl:Nat->List (List UInt8))(vo vw:aD)(ws:List PW)(nm:AL)(os:List PC)(cnt ep sq:Nat):Prop where
 d:rH w kb c vu us dl nb vo vw ws cnt ep sq
 ch:Chs w nb vo nm os
 hd:lJ w
 ht:∃hc t fz,w.heap[1]? =M (aL hc t fz)/\t≠100/\t≠118/\t≠102/\t≠136/\t≠140
section
variable {w w':X}{kb nb:Nat}{c:Cf}{vu:aD}{us:List PB}{dl:Nat->List (List UInt8)}{vo vw:aD}{ws:List PW}{nm:AL}{os:List PC}{cnt ep sq:Nat}
def TS.heap(h:TS w kb nb c vu us dl vo vw ws nm os cnt ep sq)(q:w'.heap=w.heap):TS w' kb nb c vu us dl vo vw ws nm os cnt ep sq:=⟨h.d.heap q,h.ch.heap q,lJ.heap h.hd q,by rw[q];exact h.ht⟩
def mX(hd:lJ w)(hc:jL XS w w')(z:¬XS 1):lJ w':=by
 have e:∀(i:Nat),w'.cell? ⟨1,i,Z⟩=w.cell? ⟨1,i,Z⟩:=λi=>by
  unfold World.cell?;rw[hc.block _ hd.pos z]
 exact⟨⟨by rw[e];exact hd.1.1,by rw[e];exact hd.1.2.1,by rw[e];exact hd.1.2.2⟩,⟨by rw[e];exact hd.2.1,by rw[e];exact hd.2.2.1,by rw[e];exact hd.2.2.2⟩⟩
def TS.kept(h:TS w kb nb c vu us dl vo vw ws nm os cnt ep sq)(hc:jL XS w w')(z:∀k,k<w.heap.size->¬XS k):TS w' kb nb c vu us dl vo vw ws nm os cnt ep sq:=by obtain⟨v,J,I⟩:=(hc.mono (M':=λ_=>False) (λk hk e=>z k hk e)).fake;obtain⟨E,t,fz,R,Y⟩:=h.ht;exact⟨(h.d.below J.lQ).heap I.symm,(h.ch.below J.lQ).heap I.symm,mX h.hd hc (z _ h.hd.pos),E,t,fz,(hc.block _ h.hd.pos (z _ h.hd.pos)).trans R,Y⟩
def TS.below(h:TS w kb nb c vu us dl vo vw ws nm os cnt ep sq)(z:Below w.heap.size w w'):TS w' kb nb c vu us dl vo vw ws nm os cnt ep sq:=h.kept (XS:=λ_=>False) (jI.below z jB _).h (λ_ _ e=>e)
def TS.JA(h:TS w kb nb c vu us dl vo vw ws nm os cnt ep sq)(hk:w.heap[k]? =M (aL cs t fz))(t1:t≠100)(t2:t≠136)(t3:t≠140):¬(k=kb\/Own nb vo os k):=by
 rintro(rfl|e)
 .rw[h.d.obj]at hk
  grind
 .exact h.ch.lK hk t2 t3 e
def TS.aed(h:TS w kb nb c vu us dl vo vw ws nm os cnt ep sq)(hk:w.heap[k]? =M (aL cs t fz))(t1:t≠100)(t2:t≠118):¬(k=kb\/k=nb\/vw.ownBlock=M k):=by
 rintro(rfl|rfl|e)
 .rw[h.d.obj]at hk
  grind
 .exact lg hk h.ch.named rfl
 .exact jH h.d.wait hk t2 e
def TS.Uj(h:TS w kb nb c vu us dl vo vw ws nm os cnt ep sq)(hk:w.heap[k]? =M (aL cs t fz))(t1:t≠100)(t2:t≠102):¬(k=kb\/vu.ownBlock=M k):=by
 rintro(rfl|e)
 .rw[h.d.obj]at hk
  grind
 .exact jH h.d.upper hk t2 e
def TS.chans(h:TS w kb nb c vu us dl vo vw ws nm os cnt ep sq)(E:w'.heap[kb]? =M (aL ((jP c vu nb vo vw cnt ep sq).setIfInBounds 9 vo') 100 (0,0)))(ac:Chs w' nb vo' nm' os')(hc:jL (λk=>k=kb\/Own nb vo os k) w w'):TS w' kb nb c vu us dl vo' vw ws nm' os' cnt ep sq:=by
 obtain⟨aa,t,fz,R,q2,q3,q4,Y,J⟩:=h.ht
 have z:∀{e s n:Nat}{v:aD}{xs:List aD},Row w e s v n xs->e≠100->e≠136->e≠140->Row w' e s v n xs:=λhr t1 t2 t3=>hr.kept (λg hg=>hc.block g (hr.lt hg) (by
  obtain⟨ae,I⟩:=hr.obj hg;exact h.JA I t1 t2 t3))
 refine⟨⟨?_,z h.d.upper aB aB aB,z h.d.wait aB aB aB,λj p hp=>z (h.d.deps j p hp) aB aB aB,λp hp=>z (h.d.txs p hp) aB aB aB⟩,ac,mX h.hd hc (h.JA R q2 Y J),aa,t,fz,(hc.block _ h.hd.pos (h.JA R q2 Y J)).trans R,q2,q3,q4,Y,J⟩;rw[E];rfl
def TS.took(h:TS w kb nb c vu us dl vo vw ws nm os cnt ep sq)(ht:BD kb nb (jP c vu nb vo vw cnt ep sq) vo os w vo' nm' os' w'):TS w' kb nb c vu us dl vo' vw ws nm' os' cnt ep sq:=h.chans ht.obj ht.chs ht.jM.h
def TS.bi(h:TS w kb nb c vu us dl vo vw ws nm os cnt ep sq){l:List Ch}{m:Nat}(ht:BI kb nb w (jP c vu nb vo vw cnt ep sq) vo os l m w' vo' nm' os'):TS w' kb nb c vu us dl vo' vw ws nm' os' cnt ep sq:=h.chans ht.obj ht.chs ht.jM.h
def TS.pulled(h:TS w kb nb c vu us dl vo vw ws nm os cnt ep sq){n:Nat}{l0:List Ch}{J:List (List UInt8)}{Y E:aD}{I:List PW}{cs':Array aD}(ht:TI kb nb n w (jP c vu nb vo vw cnt ep sq) vw ws J w' Y E I){B:Nat->Prop}(hp:PS kb nb B l0 J w' cs' vo' nm' os'):TS w' kb nb c vu us dl vo' E (ws++I) nm' os' cnt ep sq:=by
 have hc:=ht.jM.h;obtain⟨aa,t,fz,q1,q2,q3,q4,q5,q6⟩:=h.ht
 have z:∀{e s n:Nat}{v:aD}{xs:List aD},Row w e s v n xs->e≠100->e≠118->Row w' e s v n xs:=λhr t1 t2=>hr.kept (λg hg=>hc.block g (hr.lt hg) (by
  obtain⟨ac,R⟩:=hr.obj hg;exact h.aed R t1 t2))
 have e9:Y=vo':=by
  have h1:=ht.obj;rw[hp.obj]at h1;simp only[aK,Obj.cells.injEq,and_true]at h1;have h2:=hp.order;rw[h1]at h2;have h3:(((jP c vu nb vo vw cnt ep sq).setIfInBounds 9 Y).setIfInBounds 10 E)[9]? =M Y:=rfl;rw[h3]at h2;exact fC h2
 subst e9;refine⟨⟨?_,z h.d.upper aB aB,ht.row,λj p hp=>z (h.d.deps j p hp) aB aB,ht.txs⟩,hp.chs,mX h.hd hc (h.aed q1 q2 q3),aa,t,fz,(hc.block _ h.hd.pos (h.aed q1 q2 q3)).trans q1,q2,q3,q4,q5,q6⟩;rw[ht.obj];rfl
def TS.more(h:TS w kb nb c vu us dl vo vw ws nm os cnt ep sq){u:X2}{da:Option fR}{dc:Nat}{w6 w1:X}{g off cap:Nat}(hb:Below w.heap.size w w6)(hm:Made w6 w.heap.size (.slice da (Dv.jR u).length dc) (Dv.jR u))(J:Row w1 102 3 (aM (M ⟨g,off,Z⟩) (us.length+1) cap) (us.length+1) (us.flatMap qE++[N aE u.id,N aE u.time,.slice da (Dv.jR u).length dc]))
  (hg:Grew vu g (w6.alloc (aL #[N aE u.id,N aE u.time,.slice da (Dv.jR u).length dc] 102)) w1):
  TS (w1.setCell ⟨kb,7,Z⟩ (aM (M ⟨g,off,Z⟩) (us.length+1) cap)) kb nb c (aM (M ⟨g,off,Z⟩) (us.length+1) cap) (us++[(u.id,u.time,.slice da (Dv.jR u).length dc)]) (λj=>if j=us.length then Dv.jR u else dl j) vo vw ws nm os cnt ep sq/\jI (λk=>k=kb\/vu.ownBlock=M k) w (w1.setCell ⟨kb,7,Z⟩ (aM (M ⟨g,off,Z⟩) (us.length+1) cap)):=by
 have c1:=(jI.alloc _ _ _).trans hg.jM (λ_ _ e=>e);have c2:=(jI.below hb jB _).trans c1 (λ_ _ e=>e);have af:=(jE h.d.obj)
 have c3:jI (λk=>k=kb\/vu.ownBlock=M k) w6 (w1.setCell ⟨kb,7,Z⟩ (aM (M ⟨g,off,Z⟩) (us.length+1) cap)):=(c1.mono (λ_ _ e=>.inr e)).trans (.set _ _ _ _) (λ_ _ e=>.inl e);have c4:=(jI.below hb jB _).trans c3 (λ_ _ e=>e);obtain⟨ae,t,fz,q1,q2,q3,q4,q5,q6⟩:=h.ht;have I:=h.below hb
 have E:∀{e s n:Nat}{v:aD}{xs:List aD},Row w6 e s v n xs->e≠100->e≠102->Row (w1.setCell ⟨kb,7,Z⟩ (aM (M ⟨g,off,Z⟩) (us.length+1) cap)) e s v n xs:=λJ t1 t2=>J.kept (λg hg=>c3.block g (J.lt hg) (by
  obtain⟨Y,z⟩:=J.obj hg;exact I.Uj z t1 t2))
 have aa:=(c2.block kb af (jH h.d.upper h.d.obj aB)).trans h.d.obj
 have ac:g≠kb:=by
  obtain⟨Y,z⟩:=J.obj (g:=g) rfl;intro e;subst e;rw[aa]at z;simp at z
 refine⟨⟨⟨?_,?_,E I.d.wait aB aB,λj p hp=>?_,λp hp=>E (I.d.txs p hp) aB aB⟩,?_,mX h.hd c4.h (h.Uj q1 q2 q4),ae,t,fz,(c4.block _ h.hd.pos (h.Uj q1 q2 q4)).trans q1,q2,q3,q4,q5,q6⟩,c4⟩
 .rw[block_setCell aa];rfl
 .rw[aS,iF,iw]
  exact J.kept (λg' R=>by
   simp only[eE,aK]at R;subst R;exact aW _ _ _ _ ac)
 .by_cases hj:j=us.length
  .subst hj;rw[bV jB,Nat.sub_self]at hp;simp at hp;subst hp;rw[ZD rfl];exact E hm.1 aB aB
  .rw[Zs hj];have hl:=(aN.1 hp).1;rw[aS,iF]at hl;rw[bZ aA]at hp;exact E (I.d.deps j p hp) aB aB
 .refine I.ch.jM c3 (λk hk=>?_);rintro(rfl|e)
  .exact I.ch.lK I.d.obj aB aB hk
  .obtain⟨Y,z⟩:=I.d.upper.obj e;exact I.ch.lK z aB aB hk
end
end
def yO{α:Type}{l:List α}{n:Nat}(h:l.length=n+1):∃x r,l=x::r/\r.length=n:=by
 cases l with
 |nil=>simp at h
 |cons x r=>exact⟨x,r,rfl,by simpa using h⟩
def Wv{t:Array aD}(h:t.size=93):∃u0 u1 u2 u3 u4 u5 u6 u7 u8 u9 aw cb au bj b8 bp af b1 ag am ay cg ak ai bo R b9 ca cj Y ci bl co bb a0 b3 cd bd bs bh b5 bu a4 b7 bz b4 br ac ao av a9 a2 E ba cq bk bg ck a1 cp a8 cc b6 cm ct bv bm cf az ae cl aq ah a5 bq I bn a7 aa aj b2 ap z cn an cr a3 ar a6 b0 bw ce J,t=#[u0,u1,u2,u3,u4,u5,u6,u7,u8,u9,aw,cb,au,bj,b8,bp,af,b1,ag,am,ay,cg,ak,ai,bo,R,b9,ca,cj,Y,ci,bl,co,bb,a0,b3,cd,bd,bs,bh,b5,bu,a4,b7,bz,b4,br,ac,ao,av,a9,a2,E,ba,cq,bk,bg,ck,a1,cp,a8,cc,b6,cm,ct,bv,bm,cf,az,ae,cl,aq,ah,a5,bq,I,bn,a7,aa,aj,b2,ap,z,cn,an,cr,a3,ar,a6,b0,bw,ce,J]:=by
 obtain⟨l⟩:=t;replace h:l.length=93:=h
 iterate 93 (obtain⟨_,l,rfl,h'⟩:=yO h;clear h;have h:=h';clear h')
 obtain rfl:=List.length_eq_zero_iff.1 h;exact⟨_,_,_,_,_,_,_,_,_,_,_,_,_,_,_,_,_,_,_,_,_,_,_,_,_,_,_,_,_,_,_,_,_,_,_,_,_,_,_,_,_,_,_,_,_,_,_,_,_,_,_,_,_,_,_,_,_,_,_,_,_,_,_,_,_,_,_,_,_,_,_,_,_,_,_,_,_,_,_,_,_,_,_,_,_,_,_,_,_,_,_,_,_,rfl⟩
end Hm
namespace Pa
open Go Go.Conc Go.RowKit Go.Joins
open Hm (ptr kD jF jP TS jL kW AL PC PB PW lives wV wG wP takeB AX ops2 Fits)
open Dv (X2 Cf Ch)
open Po hiding X2 H B IT PR NB
section
noncomputable def ops4:Array Oper:=match Tryz.f31.body with
 |some (bL _ (bL _ (bL _ (bL _ (bL (bL (.region _ ops _) _) _)))))=>ops
 |_=>#[]
noncomputable def Pg:eN:=match Tryz.f31.body with
 |some (bL _ (bL _ (bL c _)))=>c
 |_=>.skip
noncomputable def Vt:eN:=match Tryz.f31.body with
 |some (bL _ (bL _ (bL _ (bL _ (bL (bL c _) _)))))=>c
 |_=>.skip
def SG:Tryz.f31.body=M (bL wV (bL wG (bL Pg (bL wP (bL (bL Vt takeB) AX))))):=XN
def Tt:∃z,Pg=.region z ops2 bB:=⟨_,rfl⟩
def TL:∃z,Vt=.region z ops4 bB:=⟨_,rfl⟩
structure SA(a:Act)(b2 b3 b4:Nat):Prop where
 sz:a.tmps.size=93
 df:a.defers=[]
 t2:a.tmps[2]? =M (ptr b2)
 t3:a.tmps[3]? =M (ptr b3)
 t4:a.tmps[4]? =M (ptr b4)
structure TB(w:X)(b2 b3 b4 kb n:Nat)(u:X2)(vt vl:aD):Prop where
 h2:w.heap[b2]? =M (aL #[ptr kb] 71 (0,0))
 h3:w.heap[b3]? =M (aL #[N aE u.id,N aE u.time,vt,vl] 28 (0,0))
 h4:w.heap[b4]? =M (aL #[N aE n] 3 (0,0))
section
variable {w w':X}
variable {kb:Nat}{u:X2}{vt vl:aD}{b2 b3 b4 n:Nat}
def TB.jM{XS:Nat->Prop}(h:TB w b2 b3 b4 kb n u vt vl)(hc:jL XS w w')(z:∀(j:Nat)(cs:Array aD)(t:Nat)(E:Nat×Nat),w.heap[j]? =M (aL cs t E)->t=71\/t=28\/t=3->¬XS j):TB w' b2 b3 b4 kb n u vt vl:=
 ⟨(hc.block _ (jE h.h2) (z _ _ _ _ h.h2 (.inl rfl))).trans h.h2,(hc.block _ (jE h.h3) (z _ _ _ _ h.h3 (.inr (.inl rfl)))).trans h.h3,(hc.block _ (jE h.h4) (z _ _ _ _ h.h4 (.inr (.inr rfl)))).trans h.h4⟩
end
end
open Hm (ptr jF jP)
open Dv (X2 Cf)
open Cr (Fill Xh)
section
def vs4(kb b3 s:Nat)(c:Cf)(tx:Option fR)(n cap:Nat)(i:Nat):aD:=(#[ptr kb,ptr kb,ptr kb,.agg (jF c),aG (M ⟨b3,2,Z⟩),.slice tx n cap,aM (M ⟨s+1,0,Z⟩) n n,N aE n,N aE 0]:Array aD).getD i aH
section
variable {Post:vU}{D:Nat->Prop}{w:X}{b:cT}{a:Act}{k:List Item}{XX A:List cT}
variable {kb nb:Nat}{c:Cf}{vu vo vw vl:aD}{cnt ep sq:Nat}{u:X2}{b2 b3 b4:Nat}{tx:Option fR}{n cap:Nat}{fs:Nat->List Fr.F}
def adO:Cr.fills 93 ops4=bB:=XN
def abn(rd:Cr.ReadW){ae:Nat}(hA:SA a b2 b3 b4)(h2:w.heap[b2]? =M (aL #[ptr kb] 71 (0,0)))(h3:w.heap[b3]? =M (aL #[N aE u.id,N aE u.time,.slice tx n cap,vl] 28 (0,0)))(hk:w.heap[kb]? =M (aL (jP c vu nb vo vw cnt ep sq) 100 (0,0)))(hn:n<=16777216)(ag:Tryz.prog.globals.size<=w.heap.size){tb p0:Nat}{fr ad:Nat->Int}{data:Nat->ByteArray}(hx:Xh (λ_=>True) w tx tb p0 n fr ad data)(af:∀j,j<n->fs j=Fr.mg c.inbox c.batcher (fr j) (ad j) (data j).data.toList)(hQ:∀a' w' D',SA a' b2 b3 b4->a'.tmps[44]? =M (aM (M ⟨w.heap.size+1,0,Z⟩) n n)->a'.tmps[45]? =M (N aE n)->a'.tmps[46]? =M (N aE 0)->BO w n fs w'->Wq D' Post XX (b.at a' k) A w'):Wq D Post XX (b.at a (.code (.region ae ops4 bB)::k)) A w:=by
 refine Wq.fill (τ:=Unit) (λ_=>vs4 kb b3 w.heap.size c tx n cap) (λl v D1 _=>(l.getD 6 aR=aR->v=w/\D1=D)/\(l.getD 6 aR=bB->BO w n fs v)) (by rw[hA.sz];exact adO) (λl a' v D1 _ hl R hJ=>?_) (λl a' v D1 _ i o rest J hi aa R hJ Y=>?_) () ⟨λ_=>⟨rfl,rfl⟩,λh=>by rw[show ops4.size=9 from rfl]at h;cases h⟩
 .have e:∀{i t},i<9->Cr.nN ops4 i=M t->a'.tmps[t]? =M (vs4 kb b3 w.heap.size c tx n cap i):=λhi hd=>R.got _ _ hd (hl _ hi);exact hQ a' _ _ ⟨R.size.trans hA.sz,R.defers.trans hA.df,(R.slot XN).trans hA.t2,(R.slot XN).trans hA.t3,(R.slot XN).trans hA.t4⟩ (e (i:=6) aB rfl) (e (i:=7) aB rfl) (e (i:=8) aB rfl) (hJ.2 (hl 6 aB))
 .have hold:∀j,j<w.heap.size->v.heap[j]? =w.heap[j]?:=λj hj=>by
   cases h6:l.getD 6 aR with
   |false=>rw[(hJ.1 h6).1]
   |true=>exact(hJ.2 h6).old j hj
  have g2:=(hold _ (jE h2)).trans h2;have g3:=(hold _ (jE h3)).trans h3;have gk:=(hold _ (jE hk)).trans hk;have keep:i≠6->(((l.setIfInBounds i bB).getD 6 aR=aR->v=w/\D1=D)/\((l.setIfInBounds i bB).getD 6 aR=bB->BO w n fs v)):=λe=>by rw[getD_set_ne aR e];exact hJ
  have go:i≠6->o.guard=Z->(∀t d,(bO a'.eval o).run PQ (on v t d)=.ok (.value (vs4 kb b3 w.heap.size c tx n cap i)) (on v t d))->Wq D1 Post XX (b.at a' (.inRegion ops4 (i::rest)::k)) A v:=λe E hr=>Wq.val J E hr (Y v D1 () (λ_ _=>rfl) (keep e));have ac:=(jE J)
  have e2:=R.old (s:=2) XN hA.t2;have e3:=R.old (s:=3) XN hA.t3;have cl:∀{B:Nat}{cs:Array aD}{ty:TypeId}{fz:Nat×Nat}(o:Nat),v.heap[B]? =M (aL cs ty fz)->∀t d,(on v t d).cell? ⟨B,o,Z⟩=cs[o]?:=λo h t d=>aI (show(on v t d).heap[_]? =_ from h) o;have I:∀j t,Cr.waits ops4 i j=bB->Cr.nN ops4 j=M t->a'.eval (cR t)=vs4 kb b3 w.heap.size c tx n cap j:=λj t hw hd=>R.ev hd (aa j hw)
  match i,ac with
  |0,_=>
   obtain⟨z,E⟩:=Cr.kM (.load 71 (cR 2),Z) J rfl;refine go aB E λt d=>?_;have c0:=cl 0 g2 t d;unfold bO;simp only[z,e2,ptr];simp[go_sem,c0];rfl
  |1,_=>
   obtain⟨z,E⟩:=Cr.kM (.nilCheck (cR 38),Z) J rfl;refine go aB E λt d=>?_;unfold bO;simp only[z,I 0 38 rfl rfl];rfl
  |2,_=>
   obtain⟨z,E⟩:=Cr.kM (.fieldAddr 100 (cR 39) 0,Z) J rfl;refine go aB E λt d=>?_;unfold bO;simp only[z,I 1 39 rfl rfl];simp[go_sem];rfl
  |3,_=>
   obtain⟨z,E⟩:=Cr.kM (.load 24 (cR 40),Z) J rfl;refine go aB E λt d=>?_;have c0:_=(jF c)[0]?:=cl 0 gk t d;have c1:_=(jF c)[1]?:=cl 1 gk t d;have c2:_=(jF c)[2]?:=cl 2 gk t d;have c3:_=(jF c)[3]?:=cl 3 gk t d;have c4:_=(jF c)[4]?:=cl 4 gk t d;have c5:_=(jF c)[5]?:=cl 5 gk t d;have c6:_=(jF c)[6]?:=cl 6 gk t d;unfold bO;simp only[z,I 2 40 rfl rfl];simp[go_sem,vs4,ptr,jF,c0,c1,c2,c3,c4,c5,c6]
  |4,_=>
   obtain⟨z,E⟩:=Cr.kM (.fieldAddr 28 (cR 3) 2,Z) J rfl;refine go aB E λt d=>?_;unfold bO;simp only[z,e3,ptr];simp[go_sem];rfl
  |5,_=>
   obtain⟨z,E⟩:=Cr.kM (.load 25 (cR 42),Z) J rfl;refine go aB E λt d=>?_;have c0:=cl 2 g3 t d;unfold bO;simp only[z,I 4 42 rfl rfl];simp[go_sem,vs4,c0]
  |6,_=>
   obtain⟨z,E⟩:=Cr.kM (.call { callee:=.value (.func 50),args:=#[cR 41,cR 43],argTypes:=#[24,25] },Z) J rfl;have h6:=Cr.AP hi;obtain⟨rfl,rfl⟩:=hJ.1 h6.1;refine Wk.frames rd J (Cr.jY E) z (I 3 41 rfl rfl) (I 5 43 rfl rfl) hn ag hx af λD' x' hP=>Y x' D' () (λ_ _=>rfl) ⟨λh=>(by rw[h6.2]at h;cases h),λ_=>hP⟩
  |7,_=>
   obtain⟨z,E⟩:=Cr.kM (.call { callee:=.builtin _,args:=#[cR 44],argTypes:=#[104] },Z) J rfl;refine go aB E λt d=>?_;have e:a'.tmps[44]? =M (aM (M ⟨w.heap.size+1,0,Z⟩) n n):=R.got 6 44 rfl (aa 6 rfl);unfold bO;simp only[z];simp[go_sem,vs4,e]
  |8,_=>
   obtain⟨z,E⟩:=Cr.kM (.move _,Z) J rfl;refine go aB E λt d=>?_;unfold bO;simp only[z];rfl
end
end
section
variable {ta la:Option fR}{tn tc ln lc:Nat}
section
variable {Post:vU}{D:Nat->Prop}{w w':X}{b:cT}{a:Act}{k:List Item}{XX A:List cT}
variable {kb nb:Nat}{c:Cf}{vu:aD}{us:List PB}{dl:Nat->List (List UInt8)}{vo vw:aD}{ws:List PW}{nm:AL}{os:List PC}{cnt ep sq:Nat}{u:X2}{vt vl:aD}{b2 b3 b4 n:Nat}
def Tf{rest:eN}(hS:TS w kb nb c vu us dl vo vw ws nm os cnt ep sq)(ha:a={ tmps:=#[aG (M ⟨kb,0,Z⟩),gR #[N aE u.id,N aE u.time,.slice ta tn tc,.slice la ln lc],aH,aH,aH,aH,aH,aH,aH,aH,aH,aH,aH,aH,aH,aH,aH,aH,aH,aH,aH,aH,aH,aH,aH,aH,aH,aH,aH,aH,aH,aH,aH,aH,aH,aH,aH,aH,aH,aH,aH,aH,aH,aH,aH,aH,aH,aH,aH,aH,aH,aH,aH,aH,aH,aH,aH,aH,aH,aH,aH,aH,aH,aH,aH,aH,aH,aH,aH,aH,aH,aH,aH,aH,aH,aH,aH,aH,aH,aH,aH,aH,aH,aH,aH,aH,aH,aH,aH,aH,aH,aH,aH],defers:=[] })(J:∀a' w',SA a' w.heap.size (w.heap.size+1) (w.heap.size+2)->jL (λ_=>False) w w'->TB w' w.heap.size (w.heap.size+1) (w.heap.size+2) kb us.length u (.slice ta tn tc) (.slice la ln lc)->Wq D Post XX (b.at a' [.code rest]) A w'):Wq D Post XX (b.at a [.code (bL wV (bL wG rest))]) A w:=by
 refine Wq.seq ?_;obtain⟨w1,E⟩:∃w1,w1=(w.alloc (aL #[aG (M ⟨kb,0,Z⟩)] 71)).alloc (aL #[N aE u.id,N aE u.time,.slice ta tn tc,.slice la ln lc] 28):=⟨_,rfl⟩
 have s1:w1.heap.size=w.heap.size+2:=by rw[E];simp
 have b1:Go.RowKit.Below w.heap.size w w1:=by rw[E];exact((Go.RowKit.Below.refl _ w).alloc jB _).alloc aC _
 have k2:w1.heap[w.heap.size]? =M (aL #[ptr kb] 71 (0,0)):=by rw[E,fY _ _ _ aC];exact cY _ _
 have k3:w1.heap[w.heap.size+1]? =M (aL #[N aE u.id,N aE u.time,.slice ta tn tc,.slice la ln lc] 28 (0,0)):=by
  have:=cY (w.alloc (aL #[aG (M ⟨kb,0,Z⟩)] 71)) (aL #[N aE u.id,N aE u.time,.slice ta tn tc,.slice la ln lc] 28);rw[E];simpa using this
 refine Wq.piece (Q:=λa' W=>a'={ tmps:=#[aG (M ⟨kb,0,Z⟩),gR #[N aE u.id,N aE u.time,.slice ta tn tc,.slice la ln lc],aG (M ⟨w.heap.size,0,Z⟩),aG (M ⟨w.heap.size+1,0,Z⟩),aH,aH,aH,aH,aH,aH,aH,aH,aH,aH,aH,aH,aH,aH,aH,aH,aH,aH,aH,aH,aH,aH,aH,aH,aH,aH,aH,aH,aH,aH,aH,aH,aH,aH,aH,aH,aH,aH,aH,aH,aH,aH,aH,aH,aH,aH,aH,aH,aH,aH,aH,aH,aH,aH,aH,aH,aH,aH,aH,aH,aH,aH,aH,aH,aH,aH,aH,aH,aH,aH,aH,aH,aH,aH,aH,aH,aH,aH,aH,aH,aH,aH,aH,aH,aH,aH,aH,aH,aH],defers:=[] }/\W.heap=w1.heap) (λt d=>?_) ?_
 .rw[ha];refine Hm.UA _ _ _ _ _ _ _ _ _ _ _ _ _ _ _ _ _ _ _ _ _ _ _ _ _ _ _ _ _ _ _ _ _ _ _ _ _ _ _ _ _ _ _ _ _ _ _ _ _ _ _ _ _ _ _ _ _ _ _ _ _ _ _ _ _ _ _ _ _ _ _ _ _ _ _ _ _ _ _ _ _ _ _ _ _ _ _ _ _ _ _ kb _ _ ta tn tc la ln lc _ ⟨rfl,rfl,?_⟩;rw[E];rfl
 rintro a1 z ⟨rfl,I⟩;have I:=I;refine Wq.seq ?_;have Y:=(hS.below b1).heap I;obtain⟨va,vc,ac⟩:=Y.d.upper.slice;have o7:(jP c vu nb vo vw cnt ep sq)[7]? =M (.slice va us.length vc):=by rw[<-ac];rfl
 refine Wq.piece (Q:=λa' W=>SA a' w.heap.size (w.heap.size+1) (w.heap.size+2)/\W.heap=(z.alloc (aL #[N aE us.length] 3)).heap) (λt d=>?_) ?_
 .refine Hm.U5 _ _ _ _ _ _ _ _ _ _ _ _ _ _ _ _ _ _ _ _ _ _ _ _ _ _ _ _ _ _ _ _ _ _ _ _ _ _ _ _ _ _ _ _ _ _ _ _ _ _ _ _ _ _ _ _ _ _ _ _ _ _ _ _ _ _ _ _ _ _ _ _ _ _ _ _ _ _ _ _ _ _ _ _ _ _ _ _ _ _ _ _ _ kb va _ vc _ (by rw[aI (show(on z t d).heap[w.heap.size]? =_ from by rw[show(on z t d).heap=w1.heap from I];exact k2)];rfl) (by rw[aI (show(on z t d).heap[kb]? =_ from Y.d.obj)];exact o7) ⟨rfl,⟨rfl,rfl,rfl,rfl,?_⟩,rfl⟩
  show M (Value.pointer (M ⟨z.heap.size,0,Z⟩))=_
  rw[I,s1];rfl
 rintro a2 w2 ⟨aa,R⟩;have R:=R
 have hold:∀j,j<w.heap.size+2->w2.heap[j]? =w1.heap[j]?:=λj hj=>by
  rw[R,fY _ _ _ (by rw[I,s1];exact hj),I]
 refine J a2 w2 aa ⟨by grind,λj hj _=>(hold j aA).trans (b1.block j hj)⟩ ⟨(hold _ aA).trans k2,(hold _ aA).trans k3,?_⟩;have:=cY z (aL #[N aE us.length] 3)
 grind
def Nz(dl:Nat->List (List UInt8))(n:Nat)(u:X2):Nat->List (List UInt8):=λj=>if j=n then Dv.jR u else dl j
def aaJ{rest:eN}(hS:TS w kb nb c vu us dl vo vw ws nm os cnt ep sq)(I:SA a b2 b3 b4)(hB:TB w b2 b3 b4 kb us.length u (.slice ta tn tc) (.slice la ln lc))(aa:kW w u (.slice ta tn tc) (.slice la ln lc))(ac:∀x,x∈u.logs->x.length<=16777216)(hn:us.length<4294967296)(ae:∀a' w' z R,SA a' b2 b3 b4->TS w' kb nb c z (us++[(u.id,u.time,R)]) (Nz dl us.length u) vo vw ws nm os cnt ep sq->jL (λj=>j=kb\/vu.ownBlock=M j) w w'->(∀g,z.ownBlock=M g->vu.ownBlock=M g\/w.heap.size<=g)->Wq D Post XX (b.at a' [.code rest]) A w'):Wq D Post XX (b.at a [.code (bL Pg rest)]) A w:=by
 refine Wq.seq ?_;obtain⟨af,J⟩:=Tt;refine Wq.piece (Q:=λa' W=>SA a' b2 b3 b4/\∃z R,TS W kb nb c z (us++[(u.id,u.time,R)]) (Nz dl us.length u) vo vw ws nm os cnt ep sq/\jL (λj=>j=kb\/vu.ownBlock=M j) w W/\∀g,z.ownBlock=M g->vu.ownBlock=M g\/w.heap.size<=g) (λt d=>?_) ?_
 .rw[J];refine(wpIn_wide (n:=1)).1 (wpIn_region_any XN ?_);have E:TS (on w t d).drew kb nb c vu us dl vo vw ws nm os cnt ep sq:=hS.heap rfl;refine Hm.aaU (W:=(on w t d).drew) (cs:=jP c vu nb vo vw cnt ep sq) ⟨hB.h2,hB.h3,hS.d.obj,rfl,E.d.upper,hn,aa.heap rfl,ac,E.hd⟩ I.sz I.t2 I.t3 I.t4 ?_;intro a' da dc w6 g off cap w1 e1 e2 e3 e4 e5 hb hm hr hg;obtain⟨q1,q2⟩:=E.more hb hm hr hg;refine⟨rfl,⟨e1,e5.trans I.df,e2,e3,e4⟩,_,_,q1,q2.h.heaps rfl rfl,λg' Y=>?_⟩;have e:g=g':=by simpa[eE]using Y
  subst e;obtain q|q:=hg.own
  .exact .inl q
  .refine .inr (bH (show w.heap.size<=w6.heap.size from hb.size) (bH ?_ q));simp
 grind
end
end
section
section
variable {Post:vU}{D:Nat->Prop}{w w':X}{b:cT}{a:Act}{k:List Item}{XX A:List cT}
variable {kb nb:Nat}{c:Cf}{vu:aD}{us:List PB}{dl:Nat->List (List UInt8)}{vo vw:aD}{ws:List PW}{nm:AL}{os:List PC}{cnt ep sq:Nat}{u:X2}{vt vl:aD}{b2 b3 b4 n:Nat}
def WL{rest:eN}{c0:Nat}(hS:TS w kb nb c vu us dl vo vw ws nm os cnt ep sq)(hA:SA a b2 b3 b4)(hB:TB w b2 b3 b4 kb c0 u vt vl)(hn:c0<=4294967296)(aa:os.length<=4294967296)(ac:0<=c.timeout/\c.timeout<=4294967296)(R:∀a' w' I E z,SA a' b2 b3 b4->TS w' kb nb c vu us dl I vw ws E z cnt ep sq->jL (λj=>j=kb\/Hm.Own nb vo os j) w w'->(∀j,Hm.Own nb I z j->Hm.Own nb vo os j\/w.heap.size<=j)->z.length<=os.length->lives E z=(lives nm os).filter (λx=>!decide ((x.opened:Int)<c0-c.timeout))->Wq D Post XX (b.at a' [.code rest]) A w'):Wq D Post XX (b.at a [.code (bL wP rest)]) A w:=by
 refine Wq.seq ?_;refine Wq.piece (Q:=λa' W=>SA a' b2 b3 b4/\∃I E z,TS W kb nb c vu us dl I vw ws E z cnt ep sq/\jL (λj=>j=kb\/Hm.Own nb vo os j) w W/\(∀j,Hm.Own nb I z j->Hm.Own nb vo os j\/w.heap.size<=j)/\z.length<=os.length/\lives E z=(lives nm os).filter (λx=>!decide (x.opened<c0-c.timeout))) (λt d=>?_) ?_
 .have J:TS (on w t d) kb nb c vu us dl vo vw ws nm os cnt ep sq:=hS.heap rfl;obtain⟨tm,df⟩:=a;obtain⟨sz,Y,t2,t3,t4⟩:=hA;dsimp only at sz Y t2 t3 t4;subst Y;obtain⟨u0,u1,u2,u3,u4,u5,u6,u7,u8,u9,ba,cw,a8,bz,ct,b8,ar,cj,au,a2,bb,c2,a0,ay,b7,ak,cu,cv,c4,am,c3,b1,di,bs,bg,cl,cy,bu,cc,bw,co,ce,bl,cq,cg,cn,ca,ao,a4,a9,bq,bj,ag,br,dk,b0,bv,c9,bh,dj,bp,cx,cp,dg,dq,cd,b5,c1,bd,aq,db,a6,av,bm,b9,ai,b6,bo,an,az,ck,a5,af,dh,a3,dm,bk,a7,bn,ci,cf,cz,aj,rfl⟩:=Hm.Wv sz;simp only[eX,eU,dX,aK]at t2 t3 t4;subst t2 t3 t4;refine Hm.IV _ _ _ _ _ _ _ _ _ _ _ _ _ _ _ _ _ _ _ _ _ _ _ _ _ _ _ _ _ _ _ _ _ _ _ _ _ _ _ _ _ _ _ _ _ _ _ _ _ _ _ _ _ _ _ _ _ _ _ _ _ _ _ _ _ _ _ _ _ _ _ _ _ _ _ _ _ _ _ _ _ _ _ _ _ _ _ _ _ _ _ b2 b4 kb nb c0 _ _ vo nm os _ hB.h2 hB.h4 J.d.obj rfl rfl rfl J.ch aa hn ac ?_;intro cr ap aw c5 cb dd c6 ah cm a1 de W' I E z ht h1 h2;exact⟨rfl,⟨rfl,rfl,rfl,rfl,rfl⟩,I,E,z,J.took ht,ht.jM.h.heaps rfl rfl,ht.own,h1,h2⟩
 rintro a' w' ⟨ae,I,E,z,q1,q2,q3,q4,q5⟩;exact R a' w' I E z ae (q1.heap rfl) (q2.heaps rfl rfl) q3 q4 q5
def aaO{d0:eN}{c0 C m:Nat}{vs:Array aD}{fs:Nat->List Fr.F}(hS:TS w kb nb c vu us dl vo vw ws nm os cnt ep sq)(hA:SA a b2 b3 b4)(hB:TB w b2 b3 b4 kb c0 u vt vl)(ae:a.tmps[44]? =M (aM (M ⟨C,0,Z⟩) m m))(J:a.tmps[45]? =M (N aE m))(ac:a.tmps[46]? =M (N aE 0))(hC:w.heap[C]? =M (aL vs 106 (0,0)))(ah:vs.size=m)(aa:∀i,i<m->∃v,vs[i]? =M v/\Hm.zC w v (fs i))(aj:∀i f,i<m->f∈fs i->f.num<65536/\f.data.length<=65536)(hm:m<=16777216)(ai:∀i,(fs i).length<=16777216)(af:os.length+(Hm.lT fs m).length<=4294967295)(ak:0<=c.most/\c.most<=4294967296)(Y:∀a' w' I E z,SA a' b2 b3 b4->TS w' kb nb c vu us dl I vw ws E z cnt ep sq->jL (λj=>j=kb\/Hm.Own nb vo os j) w w'->(∀j,Hm.Own nb I z j->Hm.Own nb vo os j\/w.heap.size<=j)->z.length<=os.length+(Hm.lT fs m).length->lives E z=(Hm.lT fs m).foldl (Dv.frame c.most c0) (lives nm os)->Wq D Post XX (b.at a' [.code d0]) A w'):Wq D Post XX (b.at a [.code takeB,.code d0]) A w:=by
 refine Wq.piece (Q:=λa' W=>SA a' b2 b3 b4/\∃I E z,TS W kb nb c vu us dl I vw ws E z cnt ep sq/\jL (λj=>j=kb\/Hm.Own nb vo os j) w W/\(∀j,Hm.Own nb I z j->Hm.Own nb vo os j\/w.heap.size<=j)/\z.length<=os.length+(Hm.lT fs m).length/\lives E z=(Hm.lT fs m).foldl (Dv.frame c.most c0) (lives nm os)) (λt d=>?_) ?_
 .have R:TS (on w t d) kb nb c vu us dl vo vw ws nm os cnt ep sq:=hS.heap rfl;obtain⟨tm,df⟩:=a;obtain⟨sz,ag,t2,t3,t4⟩:=hA;dsimp only at sz ag t2 t3 t4 ae J ac;subst ag;obtain⟨u0,u1,u2,u3,u4,u5,u6,u7,u8,u9,bm,dg,bk,cc,db,cj,a3,cx,a4,ba,bn,dq,a9,a7,ci,aw,dd,de,dt,ay,dr,ce,d8,b7,bp,cz,dj,b8,cp,ca,c4,cq,bv,c9,cu,c2,cn,a1,bd,bl,b5,bs,ar,b6,ec,cd,b9,dy,br,ea,b1,dh,c5,d3,ee,cr,cf,dm,bo,a2,d2,bh,a5,bw,ck,au,cg,b0,az,a8,cy,bg,aq,d7,bb,ed,bu,bj,bz,cw,ct,dk,av,rfl⟩:=Hm.Wv sz;simp only[eX,eU,dX,aK]at t2 t3 t4 ae J ac;subst t2 t3 t4 ae J ac;refine Hm.Ib _ _ _ _ _ _ _ _ _ _ _ _ _ _ _ _ _ _ _ _ _ _ _ _ _ _ _ _ _ _ _ _ _ _ _ _ _ _ _ _ _ _ _ _ _ _ _ _ _ _ _ _ _ _ _ _ _ _ _ _ _ _ _ _ _ _ _ _ _ _ _ _ _ _ _ _ _ _ _ _ _ _ _ _ _ _ _ _ b2 b4 kb nb c0 C m _ _ vs vo nm os fs _ hB.h2 hB.h4 R.d.obj rfl rfl rfl R.ch hC ah aa aj hm ai af ak ?_;intro x6 x8 di a0 eb d9 a6 cl bq c1 c3 dw cm cv an co c6 dv cb ao ap dx du d1 dz W' I E z ht;exact⟨rfl,⟨rfl,rfl,rfl,rfl,rfl⟩,I,E,z,R.bi ht,ht.jM.h.heaps rfl rfl,ht.own,ht.len,ht.lives⟩
 rintro a' w' ⟨am,I,E,z,q1,q2,q3,q4,q5⟩;exact Y a' w' I E z am (q1.heap rfl) (q2.heaps rfl rfl) q3 q4 q5
end
end
end Pa
