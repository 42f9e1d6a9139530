import Derived.Test.YtpibpdpedjinhaaGreatDoorP20
import Derived.Test.YtpibpdpedjinhaaGreatDoorP38
set_option maxRecDepth 100000
set_option maxHeartbeats 4000000
set_option linter.all false
open Bool renaming false->aL,true->bB
open Go renaming Addr->gF,Value->aD,World->U,execOp->bL
open Go.Code renaming seq->cL
open Go.Fence renaming wide->gS
open Go.IntKind renaming i64->X
open Go.Obj renaming cells->aG
open Go.Operand renaming tmp->eC
open Go.Region renaming ready->fI,wanted->cT
open Go.Value renaming int->N,ownBlock->eA,pointer->aM,slice->aR
open Option renaming bind_eq_some_iff->pQ,none->Z,some->M
namespace Go.Proofs.YtpibpdpedjinhaaGreatDoor
namespace Hm
open Go.RowKit Go.Joins Go.Shelf
open Dv (X2 Cf Ba)
section
variable {v:aD}{a:Act}{d k:Nat}
noncomputable def ops2:Array Oper:=match Tryz.f39.body with
 |some (cL _ (cL _ (cL (.region _ ops _) _)))=>ops
 |_=>#[]
theorem aej:∀q0 q1 q2 q3 q4 q5 q6 q7 q8 q9 q10 q11:Bool,fI .any ops2 #[q0,q1,q2,q3,q4,q5,q6,q7,q8,q9,q10,q11]=[]->q11=bB:=by decide+kernel
def NY(q0 q1 q2 q3 q4 q5 q6 q7 q8 q9 q10 q11:Bool)(i:Nat):Bool:=decide (i<12/\(i=2->q1=bB)/\(i=3->q2=bB)/\(i=4->q3=bB/\q4=aL)/\(i=6->q5=bB/\q6=aL)/\(i=7->q6=bB/\q7=aL)/\(i=8->q4=bB/\q7=bB/\q8=aL)/\(i=9->q0=bB)/\(i=10->q9=bB)/\(i=11->q10=bB/\q8=bB/\q11=aL))
theorem Cb:∀q2 q3 q4 q5 q6 q7 q8 q9 q10 q11:Bool,(fI .any ops2 #[bB,bB,q2,q3,q4,q5,q6,q7,q8,q9,q10,q11]).all (NY bB bB q2 q3 q4 q5 q6 q7 q8 q9 q10 q11)=bB:=by decide+kernel
theorem Ae:∀q2 q3 q4 q5 q6 q7 q8 q9 q10 q11:Bool,(fI .any ops2 #[bB,aL,q2,q3,q4,q5,q6,q7,q8,q9,q10,q11]).all (NY bB aL q2 q3 q4 q5 q6 q7 q8 q9 q10 q11)=bB:=by decide+kernel
theorem zA:∀q2 q3 q4 q5 q6 q7 q8 q9 q10 q11:Bool,(fI .any ops2 #[aL,bB,q2,q3,q4,q5,q6,q7,q8,q9,q10,q11]).all (NY aL bB q2 q3 q4 q5 q6 q7 q8 q9 q10 q11)=bB:=by decide+kernel
theorem yS:∀q2 q3 q4 q5 q6 q7 q8 q9 q10 q11:Bool,(fI .any ops2 #[aL,aL,q2,q3,q4,q5,q6,q7,q8,q9,q10,q11]).all (NY aL aL q2 q3 q4 q5 q6 q7 q8 q9 q10 q11)=bB:=by decide+kernel
theorem afq:∀q0 q1 q2 q3 q4 q5 q6 q7 q8 q9 q10 q11:Bool,(fI .any ops2 #[q0,q1,q2,q3,q4,q5,q6,q7,q8,q9,q10,q11]).all (NY q0 q1 q2 q3 q4 q5 q6 q7 q8 q9 q10 q11)=bB
 |true,bB=>Cb
 |true,aL=>Ae
 |false,bB=>zA
 |false,aL=>yS
section
variable {n:Nat}{P:Program}{ops:Array Oper}{Q:Exit->Act->U->Prop}{i:Nat}{o:Oper}{K:Act->U->Prop}{a:Act}{w w':U}
theorem lH(ho:ops[i]? =M o)(E:o.guard=Z)(I:(bL a.eval o).run P w=.ok (.value v) w')(q:K (a.put o.dst v) w'):wpOpIn gS n P ops Q i K a w:=by unfold wpOpIn;rw[ho];dsimp only;rw[ZD (by simp[cT,E])];refine⟨λ_ _=>trivial,?_⟩;rw[show Oper.semAt Fence.wide.round a.eval o=bL a.eval o from rfl,I];exact q
theorem Jt(ho:ops[i]? =M o)(E:o.guard=Z)(I:(bL a.eval o).run P w=.ok .skip w')(q:K (a.put o.dst undef) w'):wpOpIn gS n P ops Q i K a w:=by unfold wpOpIn;rw[ho];dsimp only;rw[ZD (by simp[cT,E])];refine⟨λ_ _=>trivial,?_⟩;rw[show Oper.semAt Fence.wide.round a.eval o=bL a.eval o from rfl,I];exact q
theorem Jk{f:FuncId}{args:Array aD}{R:Ending->U->Prop}(ho:ops[i]? =M o)(I:o.guard=Z)(E:(bL a.eval o).run P w=.ok (.enter f args) w)(J:Calls P f args w R)(q:∀e w',R e w'->∃v,e=.returned v/\K (a.put o.dst v) w'):wpOpIn gS n P ops Q i K a w:=by unfold wpOpIn;rw[ho];dsimp only;rw[ZD (by simp[cT,I])];refine⟨λ_ _=>trivial,?_⟩;rw[show Oper.semAt Fence.wide.round a.eval o=bL a.eval o from rfl,E];refine⟨λh=>by simp[gS]at h,(callsIn_wide.2 J).mono ?_⟩;intro e w' h;obtain⟨v,rfl,hk⟩:=q e w' h;exact hk
end
theorem jF{u:aD}(q:d≠k)(h:a.tmps[k]? =M u):(a.put (M d) v).tmps[k]? =M u:=by rw[JV,Zs q];exact h
theorem vN(hd:d<a.tmps.size):(a.put (M d) v).tmps[d]? =M v:=by rw[JV,ZD rfl,ZD hd]
theorem mX:(a.put (M d) v).tmps.size=a.tmps.size:=by unfold Act.put;simp
theorem O1:(PQ.info? 139).map (λi=>(i.zero,i.size,i.bytes))=M (M (.agg #[N X 0,N X 0,aR Z 0 0]),3,40):=XN
structure UB(W:U)(b2 b3 b4 kb n:Nat)(vu:aD)(xs:List aD)(u:X2)(ta:Option gF)(tn tc:Nat)(la:Option gF)(ln lc:Nat)(cs:Array aD):Prop where
 h2:W.heap[b2]? =M (aG #[ptr kb] 93 (0,0))
 h3:W.heap[b3]? =M (aG #[N X u.id,N X u.time,.slice ta tn tc,.slice la ln lc] 42 (0,0))
 hk:W.heap[kb]? =M (aG cs 137 (0,0))
 hw:cs[7]? =M vu
 row:Row W 139 3 vu n xs
 len:n<4294967296
 up:pR W u (.slice ta tn tc) (.slice la ln lc)
 logs:∀x,x∈u.logs->x.length<=16777216
 heads:kG W
structure UR(W:U)(b2 b3 b4 kb n:Nat)(vu:aD)(xs:List aD)(u:X2)(ta:Option gF)(tn tc:Nat)(la:Option gF)(ln lc:Nat)(q0 q1 q2 q3 q4 q5 q6 q7 q8 q9 q10 q11:Bool)(a:Act)(w:U):Prop where
 sz:a.tmps.size=93
 t2:a.tmps[2]? =M (ptr b2)
 t3:a.tmps[3]? =M (ptr b3)
 t4:a.tmps[4]? =M (ptr b4)
 s0:q0=bB->a.tmps[16]? =M (ptr kb)
 s1:q1=bB->a.tmps[17]? =M (ptr kb)
 s2:q2=bB->a.tmps[18]? =M (ptr kb)
 s3:q3=bB->a.tmps[19]? =M (aM (M ⟨kb,7,Z⟩))
 s4:q4=bB->a.tmps[20]? =M (vu)
 s5:q5=bB->a.tmps[21]? =M (O8 u (.slice ta tn tc) (.slice la ln lc))
 s9:q9=bB->a.tmps[25]? =M (ptr kb)
 s10:q10=bB->a.tmps[26]? =M (aM (M ⟨kb,7,Z⟩))
 wA:q6=aL->w=W
 wB:q6=bB->q7=aL->∃da dc,Below W.heap.size W w/\Made w W.heap.size (.slice da (Dv.jS u).length dc) (Dv.jS u)/\a.tmps[22]? =M (.agg #[N X u.id,N X u.time,.slice da (Dv.jS u).length dc])
 wC:q7=bB->q8=aL->∃da dc w6,Below W.heap.size W w6/\Made w6 W.heap.size (.slice da (Dv.jS u).length dc) (Dv.jS u)/\w=w6.alloc (aG #[N X u.id,N X u.time,.slice da (Dv.jS u).length dc] 139)/\a.tmps[23]? =M (aR (M ⟨w6.heap.size,0,Z⟩) 1 1)
 wD:q8=bB->∃da dc w6 g off cap w1,Below W.heap.size W w6/\Made w6 W.heap.size (.slice da (Dv.jS u).length dc) (Dv.jS u)/\Row w1 139 3 (aR (M ⟨g,off,Z⟩) (n+1) cap) (n+1) (xs++[N X u.id,N X u.time,.slice da (Dv.jS u).length dc])/\Grew vu g (w6.alloc (aG #[N X u.id,N X u.time,.slice da (Dv.jS u).length dc] 139)) w1/\a.tmps[24]? =M (aR (M ⟨g,off,Z⟩) (n+1) cap)/\w=if q11=bB then w1.setCell ⟨kb,7,Z⟩ (aR (M ⟨g,off,Z⟩) (n+1) cap)else w1
 c7:q7=bB->q6=bB
 c8:q8=bB->q4=bB/\q7=bB
 c11:q11=bB->q8=bB
section
variable {W:U}{b2 b3 b4 kb n:Nat}{vu:aD}{xs:List aD}{u:X2}{ta:Option gF}{tn tc:Nat}{la:Option gF}{ln lc:Nat}{cs:Array aD}{q0 q1 q2 q3 q4 q5 q6 q7 q8 q9 q10 q11:Bool}{a:Act}{w:U}
theorem UB.low(hB:UB W b2 b3 b4 kb n vu xs u ta tn tc la ln lc cs)(h:UR W b2 b3 b4 kb n vu xs u ta tn tc la ln lc q0 q1 q2 q3 q4 q5 q6 q7 q8 q9 q10 q11 a w){c:Array aD}{t:Nat}{Y:Nat×Nat}(hk:W.heap[k]? =M (aG c t Y))(E:t≠137\/q8=aL)(h2:t≠139):w.heap[k]? =M (aG c t Y):=by
 have I:=(jG hk)
 cases h6:q6 with
 |false=>rw[h.wA h6];exact hk
 |true=>
  cases h7:q7 with
  |false=>
   obtain⟨da,dc,q,_⟩:=h.wB h6 h7;exact(q.block k I).trans hk
  |true=>
   cases J:q8 with
   |false=>
    obtain⟨da,dc,w6,q,_,hw,_⟩:=h.wC h7 J;rw[hw];exact(aZ _ _ _ (aP I q.size)).trans ((q.block k I).trans hk)
   |true=>
    obtain⟨da,dc,w6,g,off,cap,w1,q,_,hr,hg,_,hw⟩:=h.wD J;have h3:=hg.keep ((hB.row.below q).below ((aJ _ w6).alloc jE _)) ((aZ _ _ _ (aP I q.size)).trans ((q.block k I).trans hk)) h2;rw[hw];split
    .refine(aW _ _ _ _ (λe=>?_)).trans h3;obtain E|E:=E
     .have e:k=kb:=e;rw[e,hB.hk]at hk;simp at hk;exact E hk.2.1.symm
     .rw[J]at E;cases E
    .exact h3
theorem abG{m:Nat}{Q:Exit->Act->U->Prop}(hB:UB W b2 b3 b4 kb n vu xs u ta tn tc la ln lc cs)(an:a.tmps.size=93)(aq:a.tmps[2]? =M (ptr b2))(ar:a.tmps[3]? =M (ptr b3))(av:a.tmps[4]? =M (ptr b4))(hQ:∀a' da dc w6 g off cap w1,a'.tmps.size=93->a'.tmps[2]? =M (ptr b2)->a'.tmps[3]? =M (ptr b3)->a'.tmps[4]? =M (ptr b4)->a'.defers=a.defers->Below W.heap.size W w6->Made w6 W.heap.size (.slice da (Dv.jS u).length dc) (Dv.jS u)->Row w1 139 3 (aR (M ⟨g,off,Z⟩) (n+1) cap) (n+1) (xs++[N X u.id,N X u.time,.slice da (Dv.jS u).length dc])->Grew vu g (w6.alloc (aG #[N X u.id,N X u.time,.slice da (Dv.jS u).length dc] 139)) w1->Q .normal a' (w1.setCell ⟨kb,7,Z⟩ (aR (M ⟨g,off,Z⟩) (n+1) cap))):wpAnyIn gS m PQ .any ops2 Q 12 (Array.replicate 12 aL) a W:=by
 obtain⟨i0,hi,ao,au,ap⟩:=info_parts O1;obtain⟨af,ag,ah⟩:=hB.row.slice;refine vT (λL a' w=>a'.defers=a.defers/\∃q0 q1 q2 q3 q4 q5 q6 q7 q8 q9 q10 q11,L=#[q0,q1,q2,q3,q4,q5,q6,q7,q8,q9,q10,q11]/\UR W b2 b3 b4 kb n vu xs u ta tn tc la ln lc q0 q1 q2 q3 q4 q5 q6 q7 q8 q9 q10 q11 a' w) ?_ ?_ 12 _ a W aB ⟨rfl,aL,aL,aL,aL,aL,aL,aL,aL,aL,aL,aL,aL,rfl,?_⟩
 .rintro L a' w ⟨aa,q0,q1,q2,q3,q4,q5,q6,q7,q8,q9,q10,q11,rfl,h⟩ hr;have ac:=aej q0 q1 q2 q3 q4 q5 q6 q7 q8 q9 q10 q11 hr;obtain⟨da,dc,w6,g,off,cap,w1,h1,h2,h3,h4,h5,h6⟩:=h.wD (h.c11 ac);rw[h6,ZD ac];exact hQ _ _ _ _ _ _ _ _ h.sz h.t2 h.t3 h.t4 aa h1 h2 h3 h4
 .rintro L a' w i ⟨aa,q0,q1,q2,q3,q4,q5,q6,q7,q8,q9,q10,q11,rfl,h⟩ hr;have hn:=Z2 (fF.1 (afq q0 q1 q2 q3 q4 q5 q6 q7 q8 q9 q10 q11) i hr);have h2:=hB.low h hB.h2 (.inl aB) aB;have h3:=hB.low h hB.h3 (.inl aB) aB;obtain⟨ak,d2,d3,d4,d6,d7,d8,d9,ax,ab⟩:=hn
  match i,ak with
  |0,_=>
   obtain⟨o,ho,Y,q,hg⟩:∃o,ops2[0]? =M o/\o.op=.load 93 (eC 2)/\o.dst=M 16/\o.guard=Z:=⟨_,rfl,rfl,rfl,rfl⟩
   have hc:=nT h2;unfold ptr at hc
   refine lH (v:=aM (M ⟨kb,0,Z⟩)) (w':=w) ho hg (by
    unfold bL;simp only[Y,kC h.t2,ptr];simp[go_sem,hc]) ?_
   rw[q];exact⟨aa,bB,q1,q2,q3,q4,q5,q6,q7,q8,q9,q10,q11,rfl,⟨by rw[mX];exact h.sz,jF aB h.t2,jF aB h.t3,jF aB h.t4,λ_=>vN (d:=16) (by rw[h.sz];decide),λe=>jF aB (h.s1 e),λe=>jF aB (h.s2 e),λe=>jF aB (h.s3 e),λe=>jF aB (h.s4 e),λe=>jF aB (h.s5 e),λe=>jF aB (h.s9 e),λe=>jF aB (h.s10 e),h.wA,λe e2=>(by obtain⟨da,dc,E,J,I⟩:=h.wB e e2;exact⟨da,dc,E,J,jF aB I⟩),λe e2=>(by obtain⟨da,dc,w6,E,J,I,r4⟩:=h.wC e e2;exact⟨da,dc,w6,E,J,I,jF aB r4⟩),λe=>(by obtain⟨da,dc,w6,g,off,cap,w1,E,J,I,r4,r5,r6⟩:=h.wD e;exact⟨da,dc,w6,g,off,cap,w1,E,J,I,r4,jF aB r5,r6⟩),h.c7,h.c8,h.c11⟩⟩
  |1,_=>
   obtain⟨o,ho,Y,q,hg⟩:∃o,ops2[1]? =M o/\o.op=.load 93 (eC 2)/\o.dst=M 17/\o.guard=Z:=⟨_,rfl,rfl,rfl,rfl⟩
   have hc:=nT h2;unfold ptr at hc
   refine lH (v:=aM (M ⟨kb,0,Z⟩)) (w':=w) ho hg (by
    unfold bL;simp only[Y,kC h.t2,ptr];simp[go_sem,hc]) ?_
   rw[q];exact⟨aa,q0,bB,q2,q3,q4,q5,q6,q7,q8,q9,q10,q11,rfl,⟨by rw[mX];exact h.sz,jF aB h.t2,jF aB h.t3,jF aB h.t4,λe=>jF aB (h.s0 e),λ_=>vN (d:=17) (by rw[h.sz];decide),λe=>jF aB (h.s2 e),λe=>jF aB (h.s3 e),λe=>jF aB (h.s4 e),λe=>jF aB (h.s5 e),λe=>jF aB (h.s9 e),λe=>jF aB (h.s10 e),h.wA,λe e2=>(by obtain⟨da,dc,E,J,I⟩:=h.wB e e2;exact⟨da,dc,E,J,jF aB I⟩),λe e2=>(by obtain⟨da,dc,w6,E,J,I,r4⟩:=h.wC e e2;exact⟨da,dc,w6,E,J,I,jF aB r4⟩),λe=>(by obtain⟨da,dc,w6,g,off,cap,w1,E,J,I,r4,r5,r6⟩:=h.wD e;exact⟨da,dc,w6,g,off,cap,w1,E,J,I,r4,jF aB r5,r6⟩),h.c7,h.c8,h.c11⟩⟩
  |2,_=>
   obtain⟨o,ho,Y,q,hg⟩:∃o,ops2[2]? =M o/\o.op=.nilCheck (eC 17)/\o.dst=M 18/\o.guard=Z:=⟨_,rfl,rfl,rfl,rfl⟩
   refine lH (v:=aM (M ⟨kb,0,Z⟩)) (w':=w) ho hg (by
    unfold bL;simp only[Y,kC (h.s1 (d2 rfl)),ptr];simp[go_sem]) ?_
   rw[q];exact⟨aa,q0,q1,bB,q3,q4,q5,q6,q7,q8,q9,q10,q11,rfl,⟨by rw[mX];exact h.sz,jF aB h.t2,jF aB h.t3,jF aB h.t4,λe=>jF aB (h.s0 e),λe=>jF aB (h.s1 e),λ_=>vN (d:=18) (by rw[h.sz];decide),λe=>jF aB (h.s3 e),λe=>jF aB (h.s4 e),λe=>jF aB (h.s5 e),λe=>jF aB (h.s9 e),λe=>jF aB (h.s10 e),h.wA,λe e2=>(by obtain⟨da,dc,E,J,I⟩:=h.wB e e2;exact⟨da,dc,E,J,jF aB I⟩),λe e2=>(by obtain⟨da,dc,w6,E,J,I,r4⟩:=h.wC e e2;exact⟨da,dc,w6,E,J,I,jF aB r4⟩),λe=>(by obtain⟨da,dc,w6,g,off,cap,w1,E,J,I,r4,r5,r6⟩:=h.wD e;exact⟨da,dc,w6,g,off,cap,w1,E,J,I,r4,jF aB r5,r6⟩),h.c7,h.c8,h.c11⟩⟩
  |3,_=>
   obtain⟨o,ho,Y,q,hg⟩:∃o,ops2[3]? =M o/\o.op=.fieldAddr 137 (eC 18) 1/\o.dst=M 19/\o.guard=Z:=⟨_,rfl,rfl,rfl,rfl⟩
   refine lH (v:=aM (M ⟨kb,7,Z⟩)) (w':=w) ho hg (by
    unfold bL;simp only[Y,kC (h.s2 (d3 rfl)),ptr];simp[go_sem]) ?_
   rw[q];exact⟨aa,q0,q1,q2,bB,q4,q5,q6,q7,q8,q9,q10,q11,rfl,⟨by rw[mX];exact h.sz,jF aB h.t2,jF aB h.t3,jF aB h.t4,λe=>jF aB (h.s0 e),λe=>jF aB (h.s1 e),λe=>jF aB (h.s2 e),λ_=>vN (d:=19) (by rw[h.sz];decide),λe=>jF aB (h.s4 e),λe=>jF aB (h.s5 e),λe=>jF aB (h.s9 e),λe=>jF aB (h.s10 e),h.wA,λe e2=>(by obtain⟨da,dc,E,J,I⟩:=h.wB e e2;exact⟨da,dc,E,J,jF aB I⟩),λe e2=>(by obtain⟨da,dc,w6,E,J,I,r4⟩:=h.wC e e2;exact⟨da,dc,w6,E,J,I,jF aB r4⟩),λe=>(by obtain⟨da,dc,w6,g,off,cap,w1,E,J,I,r4,r5,r6⟩:=h.wD e;exact⟨da,dc,w6,g,off,cap,w1,E,J,I,r4,jF aB r5,r6⟩),h.c7,h.c8,h.c11⟩⟩
  |4,_=>
   obtain⟨o,ho,Y,q,hg⟩:∃o,ops2[4]? =M o/\o.op=.load 134 (eC 19)/\o.dst=M 20/\o.guard=Z:=⟨_,rfl,rfl,rfl,rfl⟩
   have h8:q8=aL:=by
    cases h8:q8 with
    |false=>rfl
    |true=>have:=(h.c8 h8).1;rw[(d4 rfl).2]at this;cases this
   have ae:=hB.low h hB.hk (.inr h8) aB;have hc:w.cell? ⟨kb,7,Z⟩=M (.slice af n ag):=by rw[aI ae,hB.hw,ah]
   refine lH (v:=.slice af n ag) (w':=w) ho hg (by
    unfold bL;simp only[Y,kC (h.s3 (d4 rfl).1)];simp[go_sem,hc]) ?_
   rw[q];exact⟨aa,q0,q1,q2,q3,bB,q5,q6,q7,q8,q9,q10,q11,rfl,⟨by rw[mX];exact h.sz,jF aB h.t2,jF aB h.t3,jF aB h.t4,λe=>jF aB (h.s0 e),λe=>jF aB (h.s1 e),λe=>jF aB (h.s2 e),λe=>jF aB (h.s3 e),λ_=>(by rw[ah];exact vN (d:=20) (by rw[h.sz];decide)),λe=>jF aB (h.s5 e),λe=>jF aB (h.s9 e),λe=>jF aB (h.s10 e),h.wA,λe e2=>(by obtain⟨da,dc,E,J,I⟩:=h.wB e e2;exact⟨da,dc,E,J,jF aB I⟩),λe e2=>(by obtain⟨da,dc,w6,E,J,I,r4⟩:=h.wC e e2;exact⟨da,dc,w6,E,J,I,jF aB r4⟩),λe=>(by obtain⟨da,dc,w6,g,off,cap,w1,E,J,I,r4,r5,r6⟩:=h.wD e;exact⟨da,dc,w6,g,off,cap,w1,E,J,I,r4,jF aB r5,r6⟩),h.c7,λe=>⟨rfl,(h.c8 e).2⟩,h.c11⟩⟩
  |5,_=>
   obtain⟨o,ho,Y,q,hg⟩:∃o,ops2[5]? =M o/\o.op=.load 42 (eC 3)/\o.dst=M 21/\o.guard=Z:=⟨_,rfl,rfl,rfl,rfl⟩
   obtain⟨c0,c1,c2,c3⟩:=cells4 h3
   refine lH (v:=.agg #[N X u.id,N X u.time,.slice ta tn tc,.slice la ln lc]) (w':=w) ho hg (by
    unfold bL;simp only[Y,kC h.t3,ptr];simp[go_sem,c0,c1,c2,c3]) ?_
   rw[q];exact⟨aa,q0,q1,q2,q3,q4,bB,q6,q7,q8,q9,q10,q11,rfl,⟨by rw[mX];exact h.sz,jF aB h.t2,jF aB h.t3,jF aB h.t4,λe=>jF aB (h.s0 e),λe=>jF aB (h.s1 e),λe=>jF aB (h.s2 e),λe=>jF aB (h.s3 e),λe=>jF aB (h.s4 e),λ_=>vN (d:=21) (by rw[h.sz];decide),λe=>jF aB (h.s9 e),λe=>jF aB (h.s10 e),h.wA,λe e2=>(by obtain⟨da,dc,E,J,I⟩:=h.wB e e2;exact⟨da,dc,E,J,jF aB I⟩),λe e2=>(by obtain⟨da,dc,w6,E,J,I,r4⟩:=h.wC e e2;exact⟨da,dc,w6,E,J,I,jF aB r4⟩),λe=>(by obtain⟨da,dc,w6,g,off,cap,w1,E,J,I,r4,r5,r6⟩:=h.wD e;exact⟨da,dc,w6,g,off,cap,w1,E,J,I,r4,jF aB r5,r6⟩),h.c7,h.c8,h.c11⟩⟩
  |6,_=>
   obtain⟨o,ho,Y,q,hg⟩:∃o,ops2[6]? =M o/\o.op=.call { callee:=.value (.func 69),args:=#[eC 21],argTypes:=#[42] }/\o.dst=M 22/\o.guard=Z:=⟨_,rfl,rfl,rfl,rfl⟩
   have h7:q7=aL:=by
    cases h7:q7 with
    |false=>rfl
    |true=>have:=h.c7 h7;rw[(d6 rfl).2]at this;cases this
   have h8:q8=aL:=by
    cases h8:q8 with
    |false=>rfl
    |true=>have:=(h.c8 h8).2;rw[h7]at this;cases this
   have hw:=h.wA (d6 rfl).2;subst hw;have aj:=h.s5 (d6 rfl).1;unfold O8 at aj;have ai:=NQ u _ _ w hB.up hB.logs hB.heads;unfold O8 at ai
   refine Jk (f:=69) (args:=#[.agg _]) ho hg (by
    unfold bL;simp only[Y];simp[resolve,invoke,aj,Act.eval,go_sem]) ai ?_
   rintro e w' ⟨da,dc,rfl,hm,hb⟩;refine⟨_,rfl,?_⟩;rw[q];exact⟨aa,q0,q1,q2,q3,q4,q5,bB,q7,q8,q9,q10,q11,rfl,⟨by rw[mX];exact h.sz,jF aB h.t2,jF aB h.t3,jF aB h.t4,λe=>jF aB (h.s0 e),λe=>jF aB (h.s1 e),λe=>jF aB (h.s2 e),λe=>jF aB (h.s3 e),λe=>jF aB (h.s4 e),λe=>jF aB (h.s5 e),λe=>jF aB (h.s9 e),λe=>jF aB (h.s10 e),λe=>(by cases e),λ_ _=>⟨da,dc,hb,hm,vN (d:=22) (by rw[h.sz];decide)⟩,λe=>(by rw[h7]at e;cases e),λe=>(by rw[h8]at e;cases e),λ_=>rfl,h.c8,h.c11⟩⟩
  |7,_=>
   obtain⟨o,ho,Y,q,hg⟩:∃o,ops2[7]? =M o/\o.op=.buildSlice 134 1 #[(0,eC 22)]/\o.dst=M 23/\o.guard=Z:=⟨_,rfl,rfl,rfl,rfl⟩
   obtain⟨da,dc,E,J,I⟩:=h.wB (d7 rfl).1 (d7 rfl).2
   have h8:q8=aL:=by
    cases h8:q8 with
    |false=>rfl
    |true=>have:=(h.c8 h8).2;rw[(d7 rfl).2]at this;cases this
   refine lH (v:=aR (M ⟨w.heap.size,0,Z⟩) 1 1) (w':=w.alloc (aG #[N X u.id,N X u.time,.slice da (Dv.jS u).length dc] 139)) ho hg (by
    unfold bL;simp only[Y];simp[go_sem,I]) ?_
   rw[q];exact⟨aa,q0,q1,q2,q3,q4,q5,q6,bB,q8,q9,q10,q11,rfl,⟨by rw[mX];exact h.sz,jF aB h.t2,jF aB h.t3,jF aB h.t4,λe=>jF aB (h.s0 e),λe=>jF aB (h.s1 e),λe=>jF aB (h.s2 e),λe=>jF aB (h.s3 e),λe=>jF aB (h.s4 e),λe=>jF aB (h.s5 e),λe=>jF aB (h.s9 e),λe=>jF aB (h.s10 e),λe=>(by rw[(d7 rfl).1]at e;cases e),λ_ e=>(by cases e),λ_ _=>⟨da,dc,w,E,J,rfl,vN (d:=23) (by rw[h.sz];decide)⟩,λe=>(by rw[h8]at e;cases e),λ_=>(d7 rfl).1,λe=>⟨(h.c8 e).1,rfl⟩,h.c11⟩⟩
  |8,_=>
   obtain⟨o,ho,Y,q,hg⟩:∃o,ops2[8]? =M o/\o.op=.call { callee:=.builtin .append,args:=#[eC 20,eC 23],argTypes:=#[134,134] }/\o.dst=M 24/\o.guard=Z:=⟨_,rfl,rfl,rfl,rfl⟩
   obtain⟨da,dc,w6,E,J,I,r4⟩:=h.wC (d8 rfl).2.1 (d8 rfl).2.2
   have ac:q11=aL:=by
    cases ac:q11 with
    |false=>rfl
    |true=>have:=h.c11 ac;rw[(d8 rfl).2.2]at this;cases this
   subst I;obtain⟨v',w1,hr,r5,⟨g,off,cap,rfl⟩,r6⟩:=((hB.row.below E).below ((aJ _ w6).alloc jE (aG #[N X u.id,N X u.time,.slice da (Dv.jS u).length dc] 139))).append (P:=PQ) 134 o.type i0 _ 40 (uq Tryz.underlying134) hi ao au ap (by rfl) aB ⟨w6.heap.size,0,Z⟩ 1 1 [N X u.id,N X u.time,.slice da (Dv.jS u).length dc] aB (by rfl) (by intro j u hj;match j,hj with|0,hj=>(simp at hj;subst hj;simp[Addr.add])|1,hj=>(simp at hj;subst hj;simp[Addr.add])|2,hj=>(simp at hj;subst hj;simp[Addr.add])) (by intro u hu;simp at hu;rcases hu with rfl|rfl|rfl<;>rfl) (by have:=hB.len;unfold maxLen;omega) (by have:=hB.len;omega)
   have aw:Grew vu g (w6.alloc (aG #[N X u.id,N X u.time,.slice da (Dv.jS u).length dc] 139)) w1:=by
    obtain⟨e1,e2,e3⟩|⟨e1,e2,e3⟩:=r6
    .have am:vu.ownBlock=M g:=e1.symm;exact .inl ⟨am,by rw[<-am];exact e2,e3⟩
    .exact .inr ⟨by simpa[eA]using e1,e2,e3⟩
   refine lH (v:=aR (M ⟨g,off,Z⟩) (n+1) cap) (w':=w1) ho hg (by
    unfold bL;simp only[Y];simp[resolve,invoke,builtin,kC (h.s4 (d8 rfl).1),kC r4,hr,Result.andThen]) ?_
   rw[q];exact⟨aa,q0,q1,q2,q3,q4,q5,q6,q7,bB,q9,q10,q11,rfl,⟨by rw[mX];exact h.sz,jF aB h.t2,jF aB h.t3,jF aB h.t4,λe=>jF aB (h.s0 e),λe=>jF aB (h.s1 e),λe=>jF aB (h.s2 e),λe=>jF aB (h.s3 e),λe=>jF aB (h.s4 e),λe=>jF aB (h.s5 e),λe=>jF aB (h.s9 e),λe=>jF aB (h.s10 e),λe=>(by rw[h.c7 (d8 rfl).2.1]at e;cases e),λ_ e=>(by rw[(d8 rfl).2.1]at e;cases e),λ_ e=>(by cases e),λ_=>⟨da,dc,w6,g,off,cap,w1,E,J,r5,aw,vN (d:=24) (by rw[h.sz];decide),by rw[Zs (by rw[ac];simp)]⟩,h.c7,λ_=>⟨(d8 rfl).1,(d8 rfl).2.1⟩,λ_=>rfl⟩⟩
  |9,_=>
   obtain⟨o,ho,Y,q,hg⟩:∃o,ops2[9]? =M o/\o.op=.nilCheck (eC 16)/\o.dst=M 25/\o.guard=Z:=⟨_,rfl,rfl,rfl,rfl⟩
   refine lH (v:=aM (M ⟨kb,0,Z⟩)) (w':=w) ho hg (by
    unfold bL;simp only[Y,kC (h.s0 (d9 rfl)),ptr];simp[go_sem]) ?_
   rw[q];exact⟨aa,q0,q1,q2,q3,q4,q5,q6,q7,q8,bB,q10,q11,rfl,⟨by rw[mX];exact h.sz,jF aB h.t2,jF aB h.t3,jF aB h.t4,λe=>jF aB (h.s0 e),λe=>jF aB (h.s1 e),λe=>jF aB (h.s2 e),λe=>jF aB (h.s3 e),λe=>jF aB (h.s4 e),λe=>jF aB (h.s5 e),λ_=>vN (d:=25) (by rw[h.sz];decide),λe=>jF aB (h.s10 e),h.wA,λe e2=>(by obtain⟨da,dc,E,J,I⟩:=h.wB e e2;exact⟨da,dc,E,J,jF aB I⟩),λe e2=>(by obtain⟨da,dc,w6,E,J,I,r4⟩:=h.wC e e2;exact⟨da,dc,w6,E,J,I,jF aB r4⟩),λe=>(by obtain⟨da,dc,w6,g,off,cap,w1,E,J,I,r4,r5,r6⟩:=h.wD e;exact⟨da,dc,w6,g,off,cap,w1,E,J,I,r4,jF aB r5,r6⟩),h.c7,h.c8,h.c11⟩⟩
  |10,_=>
   obtain⟨o,ho,Y,q,hg⟩:∃o,ops2[10]? =M o/\o.op=.fieldAddr 137 (eC 25) 1/\o.dst=M 26/\o.guard=Z:=⟨_,rfl,rfl,rfl,rfl⟩
   refine lH (v:=aM (M ⟨kb,7,Z⟩)) (w':=w) ho hg (by
    unfold bL;simp only[Y,kC (h.s9 (ax rfl)),ptr];simp[go_sem]) ?_
   rw[q];exact⟨aa,q0,q1,q2,q3,q4,q5,q6,q7,q8,q9,bB,q11,rfl,⟨by rw[mX];exact h.sz,jF aB h.t2,jF aB h.t3,jF aB h.t4,λe=>jF aB (h.s0 e),λe=>jF aB (h.s1 e),λe=>jF aB (h.s2 e),λe=>jF aB (h.s3 e),λe=>jF aB (h.s4 e),λe=>jF aB (h.s5 e),λe=>jF aB (h.s9 e),λ_=>vN (d:=26) (by rw[h.sz];decide),h.wA,λe e2=>(by obtain⟨da,dc,E,J,I⟩:=h.wB e e2;exact⟨da,dc,E,J,jF aB I⟩),λe e2=>(by obtain⟨da,dc,w6,E,J,I,r4⟩:=h.wC e e2;exact⟨da,dc,w6,E,J,I,jF aB r4⟩),λe=>(by obtain⟨da,dc,w6,g,off,cap,w1,E,J,I,r4,r5,r6⟩:=h.wD e;exact⟨da,dc,w6,g,off,cap,w1,E,J,I,r4,jF aB r5,r6⟩),h.c7,h.c8,h.c11⟩⟩
  |11,_=>
   obtain⟨o,ho,Y,q,hg⟩:∃o,ops2[11]? =M o/\o.op=.store 134 (eC 26) (eC 24)/\o.dst=Z/\o.guard=Z:=⟨_,rfl,rfl,rfl,rfl⟩
   obtain⟨da,dc,w6,g,off,cap,w1,E,J,I,r4,r5,r6⟩:=h.wD (ab rfl).2.1;rw[Zs (by rw[(ab rfl).2.2];simp)]at r6;subst r6;have ae:=r4.keep ((hB.row.below E).below ((aJ _ w6).alloc jE _)) ((aZ _ _ _ (aP (jG hB.hk) E.size)).trans ((E.block _ (jG hB.hk)).trans hB.hk)) aB;have hc:w.cell? ⟨kb,7,Z⟩=M (.slice af n ag):=by rw[aI ae,hB.hw,ah]
   have hz:=aQ ae 7
   refine Jt (w':=w.setCell ⟨kb,7,Z⟩ (aR (M ⟨g,off,Z⟩) (n+1) cap)) ho hg (by
    unfold bL;simp only[Y,kC (h.s10 (ab rfl).1),kC r5];simp[go_sem,stored,hc,hz]) ?_
   rw[q];have h7:=(h.c8 (ab rfl).2.1).2;exact⟨aa,q0,q1,q2,q3,q4,q5,q6,q7,q8,q9,q10,bB,rfl,⟨h.sz,h.t2,h.t3,h.t4,h.s0,h.s1,h.s2,h.s3,h.s4,h.s5,h.s9,h.s10,λe=>(by rw[h.c7 h7]at e;cases e),λ_ e=>(by rw[h7]at e;cases e),λ_ e=>(by rw[(ab rfl).2.1]at e;cases e),λ_=>⟨da,dc,w6,g,off,cap,w,E,J,I,r4,r5,by rw[ZD rfl]⟩,h.c7,h.c8,λ_=>(ab rfl).2.1⟩⟩
 .exact⟨an,aq,ar,av,λe=>(by cases e),λe=>(by cases e),λe=>(by cases e),λe=>(by cases e),λe=>(by cases e),λe=>(by cases e),λe=>(by cases e),λe=>(by cases e),λ_=>rfl,λe=>(by cases e),λe=>(by cases e),λe=>(by cases e),λe=>(by cases e),λe=>(by cases e),λe=>(by cases e)⟩
end
end
open Dv (X2 Cf Ba Ch Tx)
open Fr (F)
section
variable {most:Int}{cs:List Ch}
theorem expired(c:Cf)(n:Nat)(cs:List Ch):cs.filter (λx=>!decide ((x.opened:Int)<n-c.timeout))=cs.filter (λx=>decide ((n:Int)-(x.opened:Int)<=c.timeout)):=by grind
theorem Dc{α:Type}:∀(l:List (List α))(fs:Nat->List α),(∀j x,l[j]? =M x->fs j=x)->(List.range l.length).flatMap fs=l.flatten
 |[],_,_=>rfl
 |x::l,fs,h=>by
  have E:=Dc l (λj=>fs (j+1)) (λj y q=>h (j+1) y (by simpa using q));rw[aU,List.range_succ_eq_map,gY,List.flatMap_map,h 0 x aC,List.flatten_cons]
  congr 1
theorem NZ(c:Cf)(txs:List Tx)(fs:Nat->List F)(q:∀j t,txs[j]? =M t->fs j=Dv.oI c t):lJ fs txs.length=Dv.heard c txs:=by
 unfold lJ Dv.heard
 have:=Dc (txs.map (Dv.oI c)) fs (λj x E=>by
  grind)
 grind
theorem WQ(c:Cf)(u:X2)(n:Nat)(cs:List Ch)(wait:List Ba)(fs:Nat->List F)(E:∀j t,u.txs[j]? =M t->fs j=Dv.oI c t)(l2:List Ch)(q:l2=(lJ fs u.txs.length).foldl (Dv.frame c.most n) (cs.filter (λx=>!decide ((x.opened:Int)<n-c.timeout)))):Dv.take c u n cs wait=((Dv.pull l2).2,wait++(Dv.pull l2).1.flatMap (λs=>Dv.reads s n)):=by
 rw[q,NZ c u.txs fs E,expired];rfl
theorem oU(x:F)(l:List F):Dv.size (x::l)=x.data.length+Dv.size l:=by simp[Dv.size]
theorem Ey(k:Nat):∀l:List F,Dv.size (l.filter (λx=>decide (x.num<k+1)))=Dv.size (l.filter (λx=>decide (x.num<k)))+Dv.size (l.filter (λx=>x.num == k))
 |[]=>rfl
 |x::l=>by
  have q:=Ey k l;by_cases E:x.num<k
  .have h2:x.num<k+1:=by omega
   have h3:(x.num == k)=aL:=aF
   simp only[eG,E,h2,h3,decide_true,if_true,bU,if_false,oU,q];omega
  .by_cases h2:x.num=k
   .have h3:(x.num == k)=bB:=by simp[h2]
    have h4:x.num<k+1:=aA
    simp only[eG,E,h4,h3,decide_true,decide_false,if_true,bU,if_false,oU,q];omega
   grind
theorem X8(k:Nat){d:List UInt8}:∀l:List F,Dv.has l k=M d->d.length<=Dv.size (l.filter (λx=>x.num == k))
 |[],h=>by simp[Dv.has]at h
 |x::l,h=>by
  by_cases q:(x.num == k)=bB
  .unfold Dv.has at h;rw[List.find?_cons_of_pos (by simpa using q)]at h;simp at h;rw[List.filter_cons_of_pos (by simpa using q),oU,<-h];omega
  .have E:=X8 k (d:=d) l (by
    unfold Dv.has at h⊢
    grind)
   grind
theorem LU(l:List F):∀(k:Nat)(s:List UInt8),Dv.pX l k=M s->s.length<=Dv.size (l.filter (λx=>decide (x.num<k)))
 |0,s,h=>by
  simp[Dv.pX]at h;rw[h];simp
 |k+1,s,h=>by
  rw[Dv.pX,pQ]at h;obtain⟨s',q,h2⟩:=h;rw[bI]at h2;obtain⟨d,h3,rfl⟩:=h2;have E:=LU l k s' q;have I:=X8 k l h3;rw[Ey,aS];omega
theorem Bv(p:F->Bool):∀l:List F,Dv.size (l.filter p)<=Dv.size l
 |[]=>jE
 |x::l=>by
  have q:=Bv p l;rw[eG];split
  .rw[oU,oU];omega
  .rw[oU];omega
theorem Ze{l:List F}{s:List UInt8}(h:Dv.bytes l=M s):s.length<=Dv.size l:=by unfold Dv.bytes at h;rw[pQ]at h;obtain⟨n,_,h⟩:=h;exact bH (LU l _ s h) (Bv _ l)
def Fits(most:Int)(cs:List Ch):Prop:=∀c,c∈cs->(Dv.size c.l:Int)<=most
theorem Bc(q:0<=most){c:Ch}{f:F}(h:(Dv.size c.l:Int)<=most):(Dv.size (Dv.joined most c f).l:Int)<=most:=by
 unfold Dv.joined;split
 .exact h
 .split
  .exact q
  grind
theorem Qc(I:0<=most){n:Nat}{f:F}(h:Fits most cs):Fits most (Dv.frame most n cs f):=by
 intro c q;unfold Dv.frame at q;split at q
 .obtain q|q:=dM.1 q
  .exact h c (fU.1 q).1
  .rw[dK.1 q];exact Bc I I
 .obtain⟨J,E,rfl⟩:=bM.1 q;split
  .exact Bc I (h J E)
  .exact h J E
theorem Hg{most:Int}(q:0<=most){n:Nat}:∀(l:List F){cs:List Ch},Fits most cs->Fits most (l.foldl (Dv.frame most n) cs)
 |[],_,h=>h
 |_::l,_,h=>Hg q l (Qc q h)
theorem LZ(h:Fits most cs)(p:Ch->Bool):Fits most (cs.filter p):=λc q=>h c (fU.1 q).1
theorem Am{most:Int}:∀{cs:List Ch},Fits most cs->(∀s,s∈(Dv.pull cs).1->(s.length:Int)<=most)/\Fits most (Dv.pull cs).2
 |[],_=>⟨λs hs=>by simp[Dv.pull]at hs,λc I=>by simp[Dv.pull]at I⟩
 |c::cs,h=>by
  have q:=Am (cs:=cs) (λx J=>h x (cZ _ J));rw[Dv.pull];split
  .grind
  .rename_i s E;refine⟨λt ht=>?_,q.2⟩;obtain rfl|ht:=dD.1 ht
   .have:=Ze E;have:=h c dQ;omega
   .exact q.1 t ht
end
open Dv (X2 Cf Ba Ch)
section
variable {XS:Nat->Prop}{k t:Nat}{cs:Array aD}{fz:Nat×Nat}{vo':aD}{nm':AL}{os':List PC}
structure TS(w:U)(kb nb:Nat)(c:Cf)(vu:aD)(us:List PB)(dl:Nat->List (List UInt8))(vo vw:aD)(ws:List PW)(nm:AL)(os:List PC)(cnt ep sq:Nat):Prop where
 d:sD w kb c vu us dl nb vo vw ws cnt ep sq
 ch:Chs w nb vo nm os
 hd:kG w
 ht:∃hc t fz,w.heap[1]? =M (aG hc t fz)/\t≠137/\t≠150/\t≠139/\t≠197/\t≠201
section
variable {w w':U}{kb nb:Nat}{c:Cf}{vu:aD}{us:List PB}{dl:Nat->List (List UInt8)}{vo vw:aD}{ws:List PW}{nm:AL}{os:List PC}{cnt ep sq:Nat}
theorem TS.heap(h:TS w kb nb c vu us dl vo vw ws nm os cnt ep sq)(q:w'.heap=w.heap):TS w' kb nb c vu us dl vo vw ws nm os cnt ep sq:=⟨h.d.heap q,h.ch.heap q,kG.heap h.hd q,by rw[q];exact h.ht⟩
theorem mG(hd:kG w)(E:kF XS w w')(q:¬XS 1):kG w':=by
 have e:∀(i:Nat),w'.cell? ⟨1,i,Z⟩=w.cell? ⟨1,i,Z⟩:=λi=>by
  unfold World.cell?;rw[E.block _ hd.pos q]
 exact⟨⟨by rw[e];exact hd.1.1,by rw[e];exact hd.1.2.1,by rw[e];exact hd.1.2.2⟩,⟨by rw[e];exact hd.2.1,by rw[e];exact hd.2.2.1,by rw[e];exact hd.2.2.2⟩⟩
theorem TS.kept(h:TS w kb nb c vu us dl vo vw ws nm os cnt ep sq)(I:kF XS w w')(q:∀k,k<w.heap.size->¬XS k):TS w' kb nb c vu us dl vo vw ws nm os cnt ep sq:=by obtain⟨v,Y,J⟩:=(I.mono (M':=λ_=>False) (λk hk e=>q k hk e)).fake;obtain⟨E,t,fz,q1,q2⟩:=h.ht;exact⟨(h.d.below Y.LJ).heap J.symm,(h.ch.below Y.LJ).heap J.symm,mG h.hd I (q _ h.hd.pos),E,t,fz,(I.block _ h.hd.pos (q _ h.hd.pos)).trans q1,q2⟩
theorem TS.below(h:TS w kb nb c vu us dl vo vw ws nm os cnt ep sq)(q:Below w.heap.size w w'):TS w' kb nb c vu us dl vo vw ws nm os cnt ep sq:=h.kept (XS:=λ_=>False) (jO.below q jE _).h (λ_ _ e=>e)
theorem TS.CV(h:TS w kb nb c vu us dl vo vw ws nm os cnt ep sq)(hk:w.heap[k]? =M (aG cs t fz))(t1:t≠137)(t2:t≠197)(t3:t≠201):¬(k=kb\/Own nb vo os k):=by
 rintro(rfl|e)
 .rw[h.d.obj]at hk
  grind
 .exact h.ch.lF hk t2 t3 e
theorem TS.aeo(h:TS w kb nb c vu us dl vo vw ws nm os cnt ep sq)(hk:w.heap[k]? =M (aG cs t fz))(t1:t≠137)(t2:t≠150):¬(k=kb\/k=nb\/vw.ownBlock=M k):=by
 rintro(rfl|rfl|e)
 .rw[h.d.obj]at hk
  grind
 .exact kY hk h.ch.named rfl
 .exact jJ h.d.wait hk t2 e
theorem TS.abk(h:TS w kb nb c vu us dl vo vw ws nm os cnt ep sq)(hk:w.heap[k]? =M (aG cs t fz))(t1:t≠137)(t2:t≠139):¬(k=kb\/vu.ownBlock=M k):=by
 rintro(rfl|e)
 .rw[h.d.obj]at hk
  grind
 .exact jJ h.d.upper hk t2 e
theorem TS.chans(h:TS w kb nb c vu us dl vo vw ws nm os cnt ep sq)(E:w'.heap[kb]? =M (aG ((jT c vu nb vo vw cnt ep sq).setIfInBounds 9 vo') 137 (0,0)))(ab:Chs w' nb vo' nm' os')(hc:kF (λk=>k=kb\/Own nb vo os k) w w'):TS w' kb nb c vu us dl vo' vw ws nm' os' cnt ep sq:=by
 obtain⟨aa,t,fz,Y,q2,q3,q4,q5,J⟩:=h.ht
 have q:∀{e s n:Nat}{v:aD}{xs:List aD},Row w e s v n xs->e≠137->e≠197->e≠201->Row w' e s v n xs:=λhr t1 t2 t3=>hr.kept (λg hg=>hc.block g (hr.lt hg) (by
  obtain⟨ac,I⟩:=hr.obj hg;exact h.CV I t1 t2 t3))
 refine⟨⟨?_,q h.d.upper aB aB aB,q h.d.wait aB aB aB,λj p hp=>q (h.d.deps j p hp) aB aB aB,λp hp=>q (h.d.txs p hp) aB aB aB⟩,ab,mG h.hd hc (h.CV Y q2 q5 J),aa,t,fz,(hc.block _ h.hd.pos (h.CV Y q2 q5 J)).trans Y,q2,q3,q4,q5,J⟩;rw[E];rfl
theorem TS.took(h:TS w kb nb c vu us dl vo vw ws nm os cnt ep sq)(ht:Dw kb nb (jT c vu nb vo vw cnt ep sq) vo os w vo' nm' os' w'):TS w' kb nb c vu us dl vo' vw ws nm' os' cnt ep sq:=h.chans ht.obj ht.chs ht.jR.h
theorem TS.bi(h:TS w kb nb c vu us dl vo vw ws nm os cnt ep sq){l:List Ch}{m:Nat}(ht:BI kb nb w (jT c vu nb vo vw cnt ep sq) vo os l m w' vo' nm' os'):TS w' kb nb c vu us dl vo' vw ws nm' os' cnt ep sq:=h.chans ht.obj ht.chs ht.jR.h
theorem TS.pulled(h:TS w kb nb c vu us dl vo vw ws nm os cnt ep sq){n:Nat}{l0:List Ch}{J:List (List UInt8)}{v9 E:aD}{I:List PW}{cs':Array aD}(ht:TI kb nb n w (jT c vu nb vo vw cnt ep sq) vw ws J w' v9 E I){B:Nat->Prop}(hp:PS kb nb B l0 J w' cs' vo' nm' os'):TS w' kb nb c vu us dl vo' E (ws++I) nm' os' cnt ep sq:=by
 have hc:=ht.jR.h;obtain⟨aa,t,fz,q1,q2,q3,q4,q5,q6⟩:=h.ht
 have q:∀{e s n:Nat}{v:aD}{xs:List aD},Row w e s v n xs->e≠137->e≠150->Row w' e s v n xs:=λhr t1 t2=>hr.kept (λg hg=>hc.block g (hr.lt hg) (by
  obtain⟨ab,Y⟩:=hr.obj hg;exact h.aeo Y t1 t2))
 have e9:v9=vo':=by
  have h1:=ht.obj;rw[hp.obj]at h1;simp only[aK,Obj.cells.injEq,and_true]at h1;have h2:=hp.order;rw[h1]at h2;have h3:(((jT c vu nb vo vw cnt ep sq).setIfInBounds 9 v9).setIfInBounds 10 E)[9]? =M v9:=rfl;rw[h3]at h2;exact fC h2
 subst e9;refine⟨⟨?_,q h.d.upper aB aB,ht.row,λj p hp=>q (h.d.deps j p hp) aB aB,ht.txs⟩,hp.chs,mG h.hd hc (h.aeo q1 q2 q3),aa,t,fz,(hc.block _ h.hd.pos (h.aeo q1 q2 q3)).trans q1,q2,q3,q4,q5,q6⟩;rw[ht.obj];rfl
theorem TS.more(h:TS w kb nb c vu us dl vo vw ws nm os cnt ep sq){u:X2}{da:Option gF}{dc:Nat}{w6 w1:U}{g off cap:Nat}(hb:Below w.heap.size w w6)(hm:Made w6 w.heap.size (.slice da (Dv.jS u).length dc) (Dv.jS u))(J:Row w1 139 3 (aR (M ⟨g,off,Z⟩) (us.length+1) cap) (us.length+1) (us.flatMap qW++[N X u.id,N X u.time,.slice da (Dv.jS u).length dc]))
  (hg:Grew vu g (w6.alloc (aG #[N X u.id,N X u.time,.slice da (Dv.jS u).length dc] 139)) w1):
  TS (w1.setCell ⟨kb,7,Z⟩ (aR (M ⟨g,off,Z⟩) (us.length+1) cap)) kb nb c (aR (M ⟨g,off,Z⟩) (us.length+1) cap) (us++[(u.id,u.time,.slice da (Dv.jS u).length dc)]) (λj=>if j=us.length then Dv.jS u else dl j) vo vw ws nm os cnt ep sq/\jO (λk=>k=kb\/vu.ownBlock=M k) w (w1.setCell ⟨kb,7,Z⟩ (aR (M ⟨g,off,Z⟩) (us.length+1) cap)):=by
 have c1:=(jO.alloc _ _ _).trans hg.jR (λ_ _ e=>e);have c2:=(jO.below hb jE _).trans c1 (λ_ _ e=>e);have af:=(jG h.d.obj)
 have c3:jO (λk=>k=kb\/vu.ownBlock=M k) w6 (w1.setCell ⟨kb,7,Z⟩ (aR (M ⟨g,off,Z⟩) (us.length+1) cap)):=(c1.mono (λ_ _ e=>.inr e)).trans (.set _ _ _ _) (λ_ _ e=>.inl e);have c4:=(jO.below hb jE _).trans c3 (λ_ _ e=>e);obtain⟨ae,t,fz,q1,q2,q3,q4,q5,q6⟩:=h.ht;have I:=h.below hb
 have E:∀{e s n:Nat}{v:aD}{xs:List aD},Row w6 e s v n xs->e≠137->e≠139->Row (w1.setCell ⟨kb,7,Z⟩ (aR (M ⟨g,off,Z⟩) (us.length+1) cap)) e s v n xs:=λJ t1 t2=>J.kept (λg hg=>c3.block g (J.lt hg) (by
  obtain⟨aa,q⟩:=J.obj hg;exact I.abk q t1 t2))
 have ab:=(c2.block kb af (jJ h.d.upper h.d.obj aB)).trans h.d.obj
 have ac:g≠kb:=by
  obtain⟨aa,q⟩:=J.obj (g:=g) rfl;intro e;subst e;rw[ab]at q;simp at q
 refine⟨⟨⟨?_,?_,E I.d.wait aB aB,λj p hp=>?_,λp hp=>E (I.d.txs p hp) aB aB⟩,?_,mG h.hd c4.h (h.abk q1 q2 q4),ae,t,fz,(c4.block _ h.hd.pos (h.abk q1 q2 q4)).trans q1,q2,q3,q4,q5,q6⟩,c4⟩
 .rw[block_setCell ab];rfl
 .rw[aS,iI,iC]
  exact J.kept (λg' Y=>by
   simp only[eA,aK]at Y;subst Y;exact aW _ _ _ _ ac)
 .by_cases hj:j=us.length
  .subst hj;rw[bV jE,Nat.sub_self]at hp;simp at hp;subst hp;rw[ZD rfl];exact E hm.1 aB aB
  .rw[Zs hj];have hl:=(aN.1 hp).1;rw[aS,iI]at hl;rw[bZ aA]at hp;exact E (I.d.deps j p hp) aB aB
 .refine I.ch.jR c3 (λk hk=>?_);rintro(rfl|e)
  .exact I.ch.lF I.d.obj aB aB hk
  .obtain⟨aa,q⟩:=I.d.upper.obj e;exact I.ch.lF q aB aB hk
end
end
def II{α:Type}{l:List α}{n:Nat}(h:l.length=n+1):∃x r,l=x::r/\r.length=n:=by
 cases l with
 |nil=>simp at h
 |cons x r=>exact⟨x,r,rfl,by simpa using h⟩
def WU{t:Array aD}(h:t.size=93):∃u0 u1 u2 u3 u4 u5 u6 u7 u8 u9 aw cc au bj b9 br af b2 ag am ax cj ak ai bq Y ca cb cl aa ck bl ct bb az b4 ce bd bv bh b6 bw a4 b8 b0 b5 bu ac ao av a9 a2 E ba cv bk bg cm a1 cu a8 cd b7 cp cx bx bm ci ay ae co aq ah a5 bs I bo a7 ab aj b3 ap q cr an cw a3 ar a6 b1 bz cg J,t=#[u0,u1,u2,u3,u4,u5,u6,u7,u8,u9,aw,cc,au,bj,b9,br,af,b2,ag,am,ax,cj,ak,ai,bq,Y,ca,cb,cl,aa,ck,bl,ct,bb,az,b4,ce,bd,bv,bh,b6,bw,a4,b8,b0,b5,bu,ac,ao,av,a9,a2,E,ba,cv,bk,bg,cm,a1,cu,a8,cd,b7,cp,cx,bx,bm,ci,ay,ae,co,aq,ah,a5,bs,I,bo,a7,ab,aj,b3,ap,q,cr,an,cw,a3,ar,a6,b1,bz,cg,J]:=by
 obtain⟨l⟩:=t;replace h:l.length=93:=h
 iterate 93 (obtain⟨_,l,rfl,h'⟩:=II h;clear h;have h:=h';clear h')
 obtain rfl:=List.length_eq_zero_iff.1 h;exact⟨_,_,_,_,_,_,_,_,_,_,_,_,_,_,_,_,_,_,_,_,_,_,_,_,_,_,_,_,_,_,_,_,_,_,_,_,_,_,_,_,_,_,_,_,_,_,_,_,_,_,_,_,_,_,_,_,_,_,_,_,_,_,_,_,_,_,_,_,_,_,_,_,_,_,_,_,_,_,_,_,_,_,_,_,_,_,_,_,_,_,_,_,_,rfl⟩
end Hm
namespace Pa
open Go Go.Conc Go.RowKit Go.Joins
open Hm (ptr kC jL jT TS kF pR AL PC PB PW lives yw xQ yc takeB CW ops2 Fits)
open Dv (X2 Cf Ch)
open Po hiding X2 H B IT PR NB
section
noncomputable def ops4:Array Oper:=match Tryz.f39.body with
 |some (cL _ (cL _ (cL _ (cL _ (cL (cL (.region _ ops _) _) _)))))=>ops
 |_=>#[]
noncomputable def Qi:Code:=match Tryz.f39.body with
 |some (cL _ (cL _ (cL c _)))=>c
 |_=>.skip
noncomputable def VU:Code:=match Tryz.f39.body with
 |some (cL _ (cL _ (cL _ (cL _ (cL (cL c _) _)))))=>c
 |_=>.skip
def TG:Tryz.f39.body=M (cL yw (cL xQ (cL Qi (cL yc (cL (cL VU takeB) CW))))):=XN
def Uh:∃q,Qi=.region q ops2 bB:=⟨_,rfl⟩
def Ur:∃q,VU=.region q ops4 bB:=⟨_,rfl⟩
structure SA(a:Act)(b2 b3 b4:Nat):Prop where
 sz:a.tmps.size=93
 df:a.defers=[]
 t2:a.tmps[2]? =M (ptr b2)
 t3:a.tmps[3]? =M (ptr b3)
 t4:a.tmps[4]? =M (ptr b4)
structure TB(w:U)(b2 b3 b4 kb n:Nat)(u:X2)(vt vl:aD):Prop where
 h2:w.heap[b2]? =M (aG #[ptr kb] 93 (0,0))
 h3:w.heap[b3]? =M (aG #[N X u.id,N X u.time,vt,vl] 42 (0,0))
 h4:w.heap[b4]? =M (aG #[N X n] 3 (0,0))
section
variable {w w':U}
variable {kb:Nat}{u:X2}{vt vl:aD}{b2 b3 b4 n:Nat}
theorem TB.jR{XS:Nat->Prop}(h:TB w b2 b3 b4 kb n u vt vl)(E:kF XS w w')(q:∀(j:Nat)(cs:Array aD)(t:Nat)(I:Nat×Nat),w.heap[j]? =M (aG cs t I)->t=93\/t=42\/t=3->¬XS j):TB w' b2 b3 b4 kb n u vt vl:=
 ⟨(E.block _ (jG h.h2) (q _ _ _ _ h.h2 (.inl rfl))).trans h.h2,(E.block _ (jG h.h3) (q _ _ _ _ h.h3 (.inr (.inl rfl)))).trans h.h3,(E.block _ (jG h.h4) (q _ _ _ _ h.h4 (.inr (.inr rfl)))).trans h.h4⟩
end
end
open Hm (ptr jL jT)
open Dv (X2 Cf)
open Cr (Fill XA)
section
def vs4(kb b3 s:Nat)(c:Cf)(tx:Option gF)(n cap:Nat)(i:Nat):aD:=(#[ptr kb,ptr kb,ptr kb,.agg (jL c),aM (M ⟨b3,2,Z⟩),.slice tx n cap,aR (M ⟨s+1,0,Z⟩) n n,N X n,N X 0]:Array aD).getD i undef
section
variable {Post:Ir}{D:Nat->Prop}{w:U}{b:Frame}{a:Act}{k:List Item}{XX A:List Frame}
variable {kb nb:Nat}{c:Cf}{vu vo vw vl:aD}{cnt ep sq:Nat}{u:X2}{b2 b3 b4:Nat}{tx:Option gF}{n cap:Nat}{fs:Nat->List Fr.F}
theorem ad4:Cr.fills 93 ops4=bB:=XN
theorem ab9(rd:Cr.ReadW){ac:Nat}(hA:SA a b2 b3 b4)(h2:w.heap[b2]? =M (aG #[ptr kb] 93 (0,0)))(h3:w.heap[b3]? =M (aG #[N X u.id,N X u.time,.slice tx n cap,vl] 42 (0,0)))(hk:w.heap[kb]? =M (aG (jT c vu nb vo vw cnt ep sq) 137 (0,0)))(hn:n<=16777216)(af:Tryz.prog.globals.size<=w.heap.size){tb p0:Nat}{fr ad:Nat->Int}{data:Nat->ByteArray}(hx:XA (λ_=>True) w tx tb p0 n fr ad data)(ae:∀j,j<n->fs j=Fr.mg c.inbox c.batcher (fr j) (ad j) (data j).data.toList)(hQ:∀a' w' D',SA a' b2 b3 b4->a'.tmps[44]? =M (aR (M ⟨w.heap.size+1,0,Z⟩) n n)->a'.tmps[45]? =M (N X n)->a'.tmps[46]? =M (N X 0)->DN w n fs w'->Wq D' Post XX (b.at a' k) A w'):Wq D Post XX (b.at a (.code (.region ac ops4 bB)::k)) A w:=by
 refine Wq.fill (τ:=Unit) (λ_=>vs4 kb b3 w.heap.size c tx n cap) (λl v D1 _=>(l.getD 6 aL=aL->v=w/\D1=D)/\(l.getD 6 aL=bB->DN w n fs v)) (by rw[hA.sz];exact ad4) (λl a' v D1 _ hl I hJ=>?_) (λl a' v D1 _ i o rest ho hi aa I hJ J=>?_) () ⟨λ_=>⟨rfl,rfl⟩,λh=>by rw[show ops4.size=9 from rfl]at h;cases h⟩
 .have e:∀{i t},i<9->Cr.ou ops4 i=M t->a'.tmps[t]? =M (vs4 kb b3 w.heap.size c tx n cap i):=λhi hd=>I.got _ _ hd (hl _ hi);exact hQ a' _ _ ⟨I.size.trans hA.sz,I.defers.trans hA.df,(I.slot XN).trans hA.t2,(I.slot XN).trans hA.t3,(I.slot XN).trans hA.t4⟩ (e (i:=6) aB rfl) (e (i:=7) aB rfl) (e (i:=8) aB rfl) (hJ.2 (hl 6 aB))
 .have hold:∀j,j<w.heap.size->v.heap[j]? =w.heap[j]?:=λj hj=>by
   cases h6:l.getD 6 aL with
   |false=>rw[(hJ.1 h6).1]
   |true=>exact(hJ.2 h6).old j hj
  have g2:=(hold _ (jG h2)).trans h2;have g3:=(hold _ (jG h3)).trans h3;have gk:=(hold _ (jG hk)).trans hk;have keep:i≠6->(((l.setIfInBounds i bB).getD 6 aL=aL->v=w/\D1=D)/\((l.setIfInBounds i bB).getD 6 aL=bB->DN w n fs v)):=λe=>by rw[getD_set_ne aL e];exact hJ
  have go:i≠6->o.guard=Z->(∀t d,(bL a'.eval o).run PQ (on v t d)=.ok (.value (vs4 kb b3 w.heap.size c tx n cap i)) (on v t d))->Wq D1 Post XX (b.at a' (.inRegion ops4 (i::rest)::k)) A v:=λe E hr=>Wq.val ho E hr (J v D1 () (λ_ _=>rfl) (keep e));have ab:=(jG ho)
  have e2:=I.old (s:=2) XN hA.t2;have e3:=I.old (s:=3) XN hA.t3;have Y:∀{B:Nat}{cs:Array aD}{ty:TypeId}{fz:Nat×Nat}(o:Nat),v.heap[B]? =M (aG cs ty fz)->∀t d,(on v t d).cell? ⟨B,o,Z⟩=cs[o]?:=λo h t d=>aI (show(on v t d).heap[_]? =_ from h) o;have dep:∀j t,Cr.waits ops4 i j=bB->Cr.ou ops4 j=M t->a'.eval (eC t)=vs4 kb b3 w.heap.size c tx n cap j:=λj t hw hd=>I.ev hd (aa j hw)
  match i,ab with
  |0,_=>
   obtain⟨q,E⟩:=Cr.lK (.load 93 (eC 2),Z) ho rfl;refine go aB E λt d=>?_;have c0:=Y 0 g2 t d;unfold bL;simp only[q,e2,ptr];simp[go_sem,c0];rfl
  |1,_=>
   obtain⟨q,E⟩:=Cr.lK (.nilCheck (eC 38),Z) ho rfl;refine go aB E λt d=>?_;unfold bL;simp only[q,dep 0 38 rfl rfl];rfl
  |2,_=>
   obtain⟨q,E⟩:=Cr.lK (.fieldAddr 137 (eC 39) 0,Z) ho rfl;refine go aB E λt d=>?_;unfold bL;simp only[q,dep 1 39 rfl rfl];simp[go_sem];rfl
  |3,_=>
   obtain⟨q,E⟩:=Cr.lK (.load 24 (eC 40),Z) ho rfl;refine go aB E λt d=>?_;have c0:_=(jL c)[0]?:=Y 0 gk t d;have c1:_=(jL c)[1]?:=Y 1 gk t d;have c2:_=(jL c)[2]?:=Y 2 gk t d;have c3:_=(jL c)[3]?:=Y 3 gk t d;have c4:_=(jL c)[4]?:=Y 4 gk t d;have c5:_=(jL c)[5]?:=Y 5 gk t d;have c6:_=(jL c)[6]?:=Y 6 gk t d;unfold bL;simp only[q,dep 2 40 rfl rfl];simp[go_sem,vs4,ptr,jL,c0,c1,c2,c3,c4,c5,c6]
  |4,_=>
   obtain⟨q,E⟩:=Cr.lK (.fieldAddr 42 (eC 3) 2,Z) ho rfl;refine go aB E λt d=>?_;unfold bL;simp only[q,e3,ptr];simp[go_sem];rfl
  |5,_=>
   obtain⟨q,E⟩:=Cr.lK (.load 39 (eC 42),Z) ho rfl;refine go aB E λt d=>?_;have c0:=Y 2 g3 t d;unfold bL;simp only[q,dep 4 42 rfl rfl];simp[go_sem,vs4,c0]
  |6,_=>
   obtain⟨q,E⟩:=Cr.lK (.call { callee:=.value (.func 71),args:=#[eC 41,eC 43],argTypes:=#[24,39] },Z) ho rfl;have h6:=Cr.RV hi;obtain⟨rfl,rfl⟩:=hJ.1 h6.1;refine Wk.frames rd ho (Cr.kR E) q (dep 3 41 rfl rfl) (dep 5 43 rfl rfl) hn af hx ae λD' x' hP=>J x' D' () (λ_ _=>rfl) ⟨λh=>(by rw[h6.2]at h;cases h),λ_=>hP⟩
  |7,_=>
   obtain⟨q,E⟩:=Cr.lK (.call { callee:=.builtin _,args:=#[eC 44],argTypes:=#[29] },Z) ho rfl;refine go aB E λt d=>?_;have e:a'.tmps[44]? =M (aR (M ⟨w.heap.size+1,0,Z⟩) n n):=I.got 6 44 rfl (aa 6 rfl);unfold bL;simp only[q];simp[go_sem,vs4,e]
  |8,_=>
   obtain⟨q,E⟩:=Cr.lK (.move _,Z) ho rfl;refine go aB E λt d=>?_;unfold bL;simp only[q];rfl
end
end
end Pa
