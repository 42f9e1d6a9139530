import Derived.Test.YtpibpdpedjinhaaGreatDoorU34
import Derived.Deep.CutRange
import Derived.Test.YtpibpdpedjinhaaGreatDoorRows
import Derived.ProofKit
import Derived.OpenShut
import Derived.Deep.Slices
import Derived.Deep.Strs
import Derived.Deep.DeepHandedRow
import Derived.Lib.LaidTab
set_option maxRecDepth 100000
set_option maxHeartbeats 16000000
set_option linter.unusedSimpArgs false
namespace Go.Proofs.YtpibpdpedjinhaaGreatDoor
namespace Dv
open Fr (F)
section
def Like (u v:U):Prop:=u.id=v.id/\u.time=v.time/\jP u=jP v
section
variable {c:Cf} {a b:List U} {k:Nat}
theorem Ed (z:∀i,i<=k->Like (a[i]!) (b[i]!)) {e:Nat} (R:e<=k) (t:Int):∀l:List Ba,sift c a k e t l=sift c b k e t l
 |[]=>rfl
 |x::r=>by
  have ih:=Ed z R t r
  rw [sift,sift,ih]
  have h1:holds c a k e t x=holds c b k e t x:=by unfold holds;rw [(z e R).2.1]
  rw [h1]
  by_cases Y:late c e t x=true
  ·simp [Y]
  ·by_cases I:holds c b k e t x=true
   ·simp [I]
   ·have h2:wrong c a e t x=wrong c b e t x:=by
     simp only [late,iO,decide_eq_true_eq,not_or] at Y
     unfold holds at I
     simp only [iO,bY,beq_iff_eq,decide_eq_true_eq,not_or] at I
     have hx:x.epoch<=k:=by omega
     unfold wrong
     rw [(z _ hx).1,(z _ hx).2.1]
     by_cases hk:e+1<=k
     ·rw [(z _ hk).2.1]
     ·have E:x.epoch=e:=by omega
      rw [E]
      by_cases hd:(b[e]!).time+c.drift < t
      ·have:x.txs.isEmpty=false:=by
        cases J:x.txs.isEmpty with
        |false=>rfl
        |true=>exact absurd ⟨⟨⟨J,E⟩,by omega⟩,hd⟩ I.2
       rw [this]
       simp
      ·rw [show decide ((b[e]!).time+c.drift < t)=false from decide_eq_false hd]
       simp only [Bool.false_and]
    rw [h2]
theorem AZ (z:∀i,i<=k->Like (a[i]!) (b[i]!)) {h:Lo} {e:Nat} (E:e<=k) (txs:List (List UInt8)):lay c a k h e txs=lay c b k h e txs:=by
 unfold lay
 rw [(z e E).1,(z e E).2.2]
theorem Qv (hw:1<=c.window) (z:∀i,i<=k->Like (a[i]!) (b[i]!)) {h:Lo} (E:h.epoch<=k) (wait:List Ba):draw c a k h wait=draw c b k h wait:=by
 have hs:=Ed (c:=c) z E (h.time+c.step) wait
 unfold draw
 simp only
 rw [hs]
 cases R:(sift c b k h.epoch (h.time+c.step) wait).1 with
 |hold=>rfl
 |got x=>
  simp only
  obtain ⟨_,_,i3,i4,_,J,_,_⟩:=wI c b k _ _ _ _ R
  have hk:x.epoch<=k:=by
   unfold holds at J
   simp only [gV,iW,beq_eq_false_iff_ne,decide_eq_false_iff_not] at J
   omega
  rw [AZ z hk]
 |no=>
  simp only
  split
  ·rfl
  ·rename_i Y
   have I:h.epoch+1<=k:=by omega
   rw [(z _ I).2.1]
   split
   ·rw [AZ z I]
   ·rw [AZ z E]
theorem AY (hw:1<=c.window) (z:∀i,i<=k->Like (a[i]!) (b[i]!)):∀(f:Nat) (h:Lo) (wait:List Ba),h.epoch<=k->draws c a k f h wait=draws c b k f h wait
 |0,_,_,_=>rfl
 |f+1,h,wait,he=>by
  rw [draws,draws,Qv hw z he]
  cases hd:draw c b k h wait with
  |mk o r=>
   cases o with
   |none=>rfl
   |some x=>
    have J:x.epoch<=k:=by
     unfold draw at hd
     simp only at hd
     split at hd
     ·simp at hd
     ·rename_i y I
      simp only [dA,aC] at hd
      obtain ⟨rfl,rfl⟩:=hd
      obtain ⟨_,_,i3,i4,_,E,_,_⟩:=wI c b k _ _ _ _ I
      simp only [lay]
      unfold holds at E
      simp only [gV,iW,beq_eq_false_iff_ne,decide_eq_false_iff_not] at E
      omega
     ·split at hd
      ·simp at hd
      ·simp only [dA,aC] at hd
       obtain ⟨rfl,rfl⟩:=hd
       simp only [lay]
       split<;>omega
    simp only [AY hw z f x r J]
theorem Ou (z:∀i,i<=k->Like (a[i]!) (b[i]!)) (h:Lo) (wait:List Ba):left a k h wait=left b k h wait:=by
 unfold left
 rw [(z k jC).2.1]
theorem PO (hw:1<=c.window) (z:∀i,i<=k->Like (a[i]!) (b[i]!)) (I:heard c (a[k]!).txs=heard c (b[k]!).txs) {s:St} (E:(s.log.getLastD default).epoch<=k):step c a k s=step c b k s:=by
 have ht:take c (a[k]!) k s.chs s.wait=take c (b[k]!) k s.chs s.wait:=by unfold take;rw [I]
 unfold step
 simp only
 rw [ht,Ou z,AY hw z _ _ _ E]
end
def Alike (c:Cf) (u v:U):Prop:=Like u v/\heard c u.txs=heard c v.txs
theorem E5 {c:Cf} {a b:List U} (E:jS a=true) (z:jQ c=true):∀k,k<=a.length->(∀i,i<=k - 1->Alike c (a[i]!) (b[i]!))->gone c a k=gone c b k
 |0,_,hab=>by
  have:=(hab 0 (by omega)).1
  unfold gone start first
  rw [this.1,this.2.1,this.2.2]
 |k+1,hk,hab=>by
  have I:=E5 E z k (by omega) (λi J=>hab i (by omega))
  have R:=(qR E z k (by omega)).epoch
  have hw:1<=c.window:=by
   unfold jQ at z
   simp only [decide_eq_true_eq] at z
   omega
  rw [gone,gone,<-I]
  exact PO hw (λi J=>(hab i (by omega)).1) (hab k (by omega)).2 (by omega)
theorem Ar {c:Cf}:∀(a b:List U) (p:Option Int),a.length=b.length->(∀i,i < a.length->Alike c (a[i]!) (b[i]!)/\small (a[i]!)=small (b[i]!))->jW p a=jW p b
 |[],[],_,_,_=>rfl
 |[],_::_,_,h,_=>by simp at h
 |_::_,[],_,h,_=>by simp at h
 |u::r,v::r',p,hl,h=>by
  have z:=h 0 (by simp)
  simp only [List.getElem!_cons_zero] at z
  have E:=Ar (c:=c) r r' (some u.time) (by simpa using hl) (λi I=>by have:=h (i+1) (by simpa using I);simpa using this)
  rw [jW,jW,E,z.1.1.2.1]
  congr 1
  unfold mY
  rw [z.1.1.2.1,z.2]
theorem aaM {c:Cf} {a b:List U} (I:a.length=b.length) (h:∀i,i < a.length->Alike c (a[i]!) (b[i]!)/\small (a[i]!)=small (b[i]!)):all c a=all c b:=by
 have R:jS a=jS b:=by
  unfold jS
  rw [Ar a b none I h,I]
 unfold all
 rw [<-R]
 by_cases z:jQ c=false
 ·rw [if_pos z,if_pos z]
 ·rw [if_neg z,if_neg z]
  by_cases E:jS a=false
  ·rw [if_pos E,if_pos E]
  ·rw [if_neg E,if_neg E]
   simp only [Bool.not_eq_false] at E z
   have J:=(kJ E).1
   rw [E5 E z a.length jC (λi Y=>(h i (by omega)).1),I]
end
end Dv
namespace Pa
open Go Go.Conc Go.RowKit Go.Joins
open Hm (ptr jI kF oG lN PU ku kM DW Ea Em DV yX EZ EL Qc uQ)
open Dv (U Cf)
open Po hiding U H B IT PR NB
open Cr (Fill)
section
variable {w:World} {va:Value} {pl:List Hm.PL}
theorem F5 {e s n:Nat} {v:Value} {xs:List Value} (h:Hm.Row w e s v n xs):n<=9223372036854775807:=by
 rcases h.2 with ⟨_,h⟩|⟨g,off,cap,z,_,_,E,h2,_⟩
 ·omega
 ·have:maxLen=9223372036854775807:=rfl
  omega
theorem Nh (z:Hm.Row w 62 8 va pl.length (pl.flatMap ku)) (hs:∀p,p∈pl->kM w p.2.1 p.1.txs/\kM w p.2.2 p.1.deps):uQ w va pl:=
 ⟨z.rd,λp hp=>⟨(hs p hp).1,(hs p hp).2,F5 (hs p hp).1,F5 (hs p hp).2⟩⟩
theorem Nk {w':World} (h:uQ w va pl) (z:kF (λ_=>False) w w'):uQ w' va pl:=
 ⟨Hm.Rd.kept h.1 z.size (λ_ g _ I=>z.block g I (λe=>e)),λp hp=>⟨Hm.Row.kept (h.2 p hp).1 (λg E=>z.block g (Hm.Row.lt (h.2 p hp).1 E) (λe=>e)),Hm.Row.kept (h.2 p hp).2.1 (λg E=>z.block g (Hm.Row.lt (h.2 p hp).2.1 E) (λe=>e)),(h.2 p hp).2.2⟩⟩
end
open Hm (ptr jI kF oG lN PU ku kM uQ)
section
noncomputable def acH:Code:=match Tryz.f29.body with
 |some (.seq c _)=>c
 |_=>.skip
noncomputable def acD:Array Oper:=match Tryz.f29.body with
 |some (.seq _ (.seq (.region _ ops _) _))=>ops
 |_=>#[]
noncomputable def ops2:Array Oper:=match Tryz.f29.body with
 |some (.seq _ (.seq _ (.seq (.region _ ops _) _)))=>ops
 |_=>#[]
noncomputable def alT:Code:=match Tryz.f29.body with
 |some (.seq _ (.seq _ (.seq _ c)))=>c
 |_=>.skip
theorem ab6:∃E z,Tryz.f29.body=some (.seq acH (.seq (.region E acD false) (.seq (.region z ops2 false) alT))):=⟨_,_,rfl⟩
theorem Zm:List.range acD.size=[0,1,2,3,4,5,6,7]:=by kernel_rfl
theorem YD:List.range ops2.size=[0,1,2,3,4,5,6,7]:=by kernel_rfl
theorem V7 {w:World} {bc:Nat} {c:Cf} {a:Act} {s:Nat} (Y:w.heap[bc]? =some (.cells (jI c) 24 (0,0))) (hs:a.eval (.tmp s)=ptr bc):∀t d (o:Oper),o.op=.load 24 (.tmp s)->(execOp a.eval o).run PQ (on w t d)=.ok (.value (.agg (jI c))) (on w t d):=λt d o h=>by
 have c:=su (w:=on w t d) Y
 have J:=c 0
 have z:=c 1
 have E:=c 2
 have I:=c 3
 have k4:=c 4
 have k5:=c 5
 have R:=c 6
 unfold execOp
 simp only [h,hs,ptr]
 simp [go_sem,J,z,E,I,k4,k5,R,jI]
section
variable {Post:Eh} {D:Nat->Prop} {Z A:List Frame} {w:World} {c:Cf} {ps qs:List PU} {xa xb:Option Addr} {vc vd:Nat}
theorem abD (rd:Cr.ReadW) {b₀:Frame} {a₀:Act} {ops:Array Oper} {i:Nat} {rest:List Nat} {k:List Item} {o:Oper} {x y z:Operand} {bd:Array TypeId} (ho:ops[i]? =some o) (hw:Region.wanted o (yielded ops a₀.tmps)=true)
  (bj:o.op=.call { callee:=.value (.func 29),args:=#[x,y,z],argTypes:=bd }) (ex:a₀.eval x=.agg (jI c)) (ey:a₀.eval y=.slice xa ps.length vc) (ez:a₀.eval z=.slice xb qs.length vd)
  (bm:Tryz.prog.globals.size<=w.heap.size) (bg:lN w (.slice xa ps.length vc) ps) (a2:lN w (.slice xb qs.length vd) qs) (a9:ps.length<=4294967296) (bb:qs.length<=4294967296) (hH:pV w) (an:Dv.all c (ps.map Prod.fst)=Dv.all c (qs.map Prod.fst))
  (ar:∀D' w',kF (λ_=>False) w w'->Wq D' Post Z (b₀.at (a₀.put o.dst (.bool true)) (.inRegion ops rest::k)) A w'):
  Wq D Post Z (b₀.at a₀ (.inRegion ops (i::rest)::k)) A w:=by
 obtain ⟨r1,r2,ao⟩:=ab6
 refine Wq.call ho hw bj (fq Tryz.func29 rfl) rfl ao ?_
 simp only [fJ,dW,fG,ex,ey,ez,show Tryz.f29.ntmps=40 from rfl,dL,aN,bM,Nat.reduceAdd,Nat.reduceSub,cO,bZ,dN,cZ,dM,dH]
 obtain ⟨w1,am⟩:∃w1,w1=w.alloc (.cells (jI c) 24):=⟨_,rfl⟩
 have ab:kF (λ_=>False) w w1:=um (by rw [am])
 have ah:w1.heap[w.heap.size]? =some (.cells (jI c) 24 (0,0)):=by rw [am];exact heap_alloc_new _ _
 refine Wq.seq (Wq.walk λt d Q hN _=>?_)
 have HN:Hid _:=hN
 clear hN
 simp only [acH,Tryz.f29,jI]
 go_wp2_with fail
 refine HN.out _ _ (Wq.same (y:=w1) (λ_ _=>by rw [am];rfl) (Wq.seq ?_))
 clear HN
 rw [show (on w t d).heap.size=w.heap.size from rfl]
 have s1:=ab.size
 refine Wq.region ?_
 rw [Zm]
 refine Wq.zF (.load 24 (.tmp 3)) (some 14) (.agg (jI c)) w1 rfl (V7 ah rfl) ?_
 simp only [Act.put,bH,dJ,dI]
 refine Wq.zF (.move (.tmp 1)) (some 15) (.slice xa ps.length vc) w1 rfl (λt d o h=>by unfold execOp;simp only [h];rfl) ?_
 simp only [Act.put,bH,dJ,dI]
 obtain ⟨y2,a7,ba,a8,bk⟩:∃o,acD[2]? =some o/\o.op=.call { callee:=.value (.func 12),args:=#[.tmp 14,.tmp 15],argTypes:=#[24,25] }/\o.dst=some 16/\o.guard=none:=⟨_,rfl,rfl,rfl,rfl⟩
 refine Kr rd (c:=c) (ps:=ps) a7 (Cr.kG bk) ba rfl rfl (by omega) (rW bg ab) a9 (hH.kept ab) λD2 w2 va pl ac ai aa aq=>?_
 rw [a8]
 have I:=ab.trans aq (λ_ _ e=>e)
 have s2:=I.size
 have ay:=(aq.block _ (jE ah) (λe=>e)).trans ah
 obtain ⟨e,he⟩:∃e,e=(Dv.all c (ps.map Prod.fst)).1:=⟨_,rfl⟩
 rw [<-he]
 simp only [Act.put,bH,dJ,dI]
 refine Wq.zF (.move (.tmp 16)) (some 13) (.tuple #[va,.int .i64 e]) w2 rfl (λt d o h=>by unfold execOp;simp only [h];rfl) ?_
 simp only [Act.put,bH,dJ,dI]
 refine Wq.zF (.extract (.tmp 13) 0) (some 17) va w2 rfl (λt d o h=>by unfold execOp;simp only [h];rfl) ?_
 simp only [Act.put,bH,dJ,dI]
 refine Wq.zF (.extract (.tmp 13) 1) (some 18) (.int .i64 e) w2 rfl (λt d o h=>by unfold execOp;simp only [h];rfl) ?_
 simp only [Act.put,bH,dJ,dI]
 refine Wq.zF (.assign (.tmp 17)) (some 7) va w2 rfl (λt d o h=>by unfold execOp;simp only [h];rfl) ?_
 simp only [Act.put,bH,dJ,dI]
 refine Wq.zF (.assign (.tmp 18)) (some 8) (.int .i64 e) w2 rfl (λt d o h=>by unfold execOp;simp only [h];rfl) (Wq.done ?_)
 simp only [Act.put,bH,dJ,dI]
 refine Wq.seq (Wq.region ?_)
 rw [YD]
 refine Wq.zF (.load 24 (.tmp 3)) (some 20) (.agg (jI c)) w2 rfl (V7 ay rfl) ?_
 simp only [Act.put,bH,dJ,dI]
 refine Wq.zF (.move (.tmp 2)) (some 21) (.slice xb qs.length vd) w2 rfl (λt d o h=>by unfold execOp;simp only [h];rfl) ?_
 simp only [Act.put,bH,dJ,dI]
 obtain ⟨y3,bh,a4,a3,a5⟩:∃o,ops2[2]? =some o/\o.op=.call { callee:=.value (.func 12),args:=#[.tmp 20,.tmp 21],argTypes:=#[24,25] }/\o.dst=some 22/\o.guard=none:=⟨_,rfl,rfl,rfl,rfl⟩
 refine Kr rd (c:=c) (ps:=qs) bh (Cr.kG a5) a4 rfl rfl (by omega) (rW a2 I) bb (hH.kept I) λD4 w4 vb R J Y E ap=>?_
 rw [a3]
 have aj:=I.trans ap (λ_ _ e=>e)
 rw [<-an] at E⊢
 rw [<-he]
 simp only [Act.put,bH,dJ,dI]
 refine Wq.zF (.move (.tmp 22)) (some 19) (.tuple #[vb,.int .i64 e]) w4 rfl (λt d o h=>by unfold execOp;simp only [h];rfl) ?_
 simp only [Act.put,bH,dJ,dI]
 refine Wq.zF (.extract (.tmp 19) 0) (some 23) vb w4 rfl (λt d o h=>by unfold execOp;simp only [h];rfl) ?_
 simp only [Act.put,bH,dJ,dI]
 refine Wq.zF (.extract (.tmp 19) 1) (some 24) (.int .i64 e) w4 rfl (λt d o h=>by unfold execOp;simp only [h];rfl) ?_
 simp only [Act.put,bH,dJ,dI]
 refine Wq.zF (.assign (.tmp 23)) (some 9) vb w4 rfl (λt d o h=>by unfold execOp;simp only [h];rfl) ?_
 simp only [Act.put,bH,dJ,dI]
 refine Wq.zF (.assign (.tmp 24)) (some 10) (.int .i64 e) w4 rfl (λt d o h=>by unfold execOp;simp only [h];rfl) (Wq.done ?_)
 simp only [Act.put,bH,dJ,dI]
 have af:=Nk (Nh ac ai) ap
 have ag:=Nh J Y
 have aw:=F5 ac
 have a0:=F5 J
 have ak:R.map Prod.fst <+:pl.map Prod.fst:=by rw [aa,E];exact List.prefix_refl _
 have ae:pl.map Prod.fst <+:R.map Prod.fst:=by rw [aa,E];exact List.prefix_refl _
 refine Wq.walk λt d Q _ hR=>?_
 have H1:Hid _:=λ(_:Unit)=>Hm.Ov va vb pl R (on w4 t d) (Nk af (Yq rfl)) (Nk ag (Yq rfl)) aw
 have H2:Hid _:=λ(V:World) (hV:Below (on w4 t d).heap.size (on w4 t d) V)=>Hm.Ov vb va R pl V ((Nk ag (Yq rfl):uQ (on w4 t d) vb R).below hV) ((Nk af (Yq rfl):uQ (on w4 t d) va pl).below hV) a0
 have HR:Hid _:=hR
 have HP:Hid _:=jB ak ae
 obtain ⟨bq,bn,rfl⟩:=af.1.slice
 obtain ⟨bo,bp,rfl⟩:=ag.1.slice
 have bl:(e == e)=true:=by simp
 have HC:Hid _:=aj
 clear hR ak ae af ag aw a0 ac J ai Y aa E ap aj I aq ab ah ay he
 simp only [alT,Tryz.f29]
 go_upto_region 4 with (go_at_call 23;refine aK (H1.out ()) ?_;rintro e1 W1 ⟨q1,rfl,a1,av⟩;obtain rfl:=a1.2 HP.out.1;have au:Hid _:=av;clear a1 av)
 go_wp2_with (go_at_call 23;refine aK (H2.out _ au.out) ?_;rintro e2 W2 ⟨q2,rfl,az,ax⟩;obtain rfl:=az.2 HP.out.2;have a6:Hid _:=ax;clear az ax)
 refine HR.out _ _ λtodo=>?_
 refine Wq.leave (v:=.bool true) (fn:=Tryz.f29) rfl rfl rfl (fq Tryz.func29 rfl) (λw=>by
  simp [results,Tryz.results29,go_sem,Frame.at]) ?_
 rw [fF,ho]
 refine ar _ _ (HC.out.trans (((Hm.jL.below (au.out.trans (a6.out.mono au.out.size)) jC (λ_=>False)).h).heaps rfl rfl) (λ_ _ e=>e))
end
end
end Pa
namespace Hm
open Go.RowKit Go.Joins Go.Shelf
open Fr (below_drewN)
def Yn (l:List Int) (i:Nat):Int:=l.getD (i % l.length) 0
theorem acC (v:Value) (l:List Int) (i:Nat) (w:World) (h:Rd w 1 v l.length (l.map (.int .i64))) (hl:l.length<=4294967296):Calls PQ 24 #[v,.int .i64 i] w λe w'=>e=.returned (.int .i64 (Yn l i))/\w'=w:=by
 obtain ⟨a,cap,rfl⟩:=h.slice
 obtain ⟨n,J⟩:∃n,l.length=n:=⟨_,rfl⟩
 by_cases h0:n=0
 ·have E:Yn l i=0:=by
   have:l=[]:=bD (by omega)
   rw [this]
   simp [Yn]
  rw [E,J,h0]
  clear h
  go_enter (fq Tryz.func24 rfl),Tryz.ntmps24
  go_wp2_with fail
  go_ret
  exact ⟨rfl,rfl⟩
 ·obtain ⟨g,off,Y,e,_,_,hx⟩:=h.pos (by omega)
  simp only [Value.slice.injEq,true_and] at e
  obtain ⟨rfl,rfl⟩:=e
  have I:i % n < n:=Nat.mod_lt _ (by omega)
  have E:l[i % n]? =some (Yn l i):=by
   unfold Yn
   rw [J,aS,aG (by omega)]
   rfl
  have k0:w.cell? ⟨g,off+i % n,none⟩=some (.int .i64 (Yn l i)):=hx _ _ (by rw [eX,E];rfl)
  obtain ⟨r,z⟩:∃r,Yn l i=r:=⟨_,rfl⟩
  rw [z] at k0⊢
  obtain ⟨j,R⟩:∃j,i % n=j:=⟨_,rfl⟩
  rw [R] at k0 I
  have hm:(i:Int).tmod (n:Int)=(j:Int):=by rw [<-R];simp [Int.tmod_eq_emod_of_nonneg]
  have hw:IntKind.i64.wrap (j:Int)=(j:Int):=by rw [IntKind.wrap_i64];omega
  have ac:((n:Int) == 0)=false:=beq_false_of_ne (by omega)
  have ab:(n:Int)≠0:=by omega
  have aa:(j:Int) < (n:Int):=by omega
  rw [J]
  clear h hx E R z
  go_enter (fq Tryz.func24 rfl),Tryz.ntmps24
  go_wp2_with fail
  go_ret
  exact ⟨rfl,rfl⟩
open Dv (U Cf Lo)
theorem aa0 {l:List Value} {n:Nat} (h:l.length=n+1):∃a m,l=a::m/\m.length=n:=by
 cases l with
 |nil=>simp at h
 |cons a m=>exact ⟨a,m,rfl,by simpa using h⟩
open Dv (U Cf Tx)
section
variable {w X w':World} {v:Value}
theorem KG:(PQ.info? 42).map (λi=>(i.zero,i.size,i.bytes))=some (some (.agg #[.int .i64 0,.int .i64 0,.slice none 0 0,.slice none 0 0]),4,64):=by kernel_rfl
theorem aco:(PQ.info? 68).map (λi=>(i.zero,i.size,i.bytes))=some (some (.agg #[.int .u32 0,.int .u32 0,.string ⟨#[]⟩]),3,24):=by kernel_rfl
theorem DR {cs:Array Value} {t b:Nat} (E:w.heap.size=b) (j:Nat) (u:Value) (h:cs.toList[j]? =some u):(w.alloc (.cells cs t)).cell? ((⟨b,0,none⟩:Addr).add j)=some u:=by
 subst E
 have e:(⟨w.heap.size,0,none⟩:Addr).add j=⟨w.heap.size,j,none⟩:=by
  unfold Addr.add
  split
  ·rename_i z;subst z;rfl
  ·simp
 rw [e,aA (heap_alloc_new _ _)]
 simpa using h
theorem Qk {a:Addr} (h:w.cell? a=some v) (o:Obj):(w.alloc o).cell? a=some v:=by
 have z:a.block < w.heap.size:=by
  unfold World.cell? at h
  rcases fQ a.block w.heap.size with z|z
  ·exact z
  ·rw [iR z] at h
   cases h
 unfold World.cell? at h⊢
 rw [Go.RowKit.Below.heap_alloc _ _ _ z]
 exact h
theorem acA (n:Nat):∃T:Nat,T≠n/\bits .xor .u32 (n:Int) 1=(T:Int):=by
 refine ⟨(BitVec.ofInt 32 (n:Int) ^^^ BitVec.ofInt 32 1).toNat,λh=>?_,?_⟩
 ·have z:(BitVec.ofInt 32 (n:Int)).toNat=n % 4294967296:=by rw [BitVec.ofInt_natCast,BitVec.toNat_ofNat]
  have h2:(BitVec.ofInt 32 (1:Int)).toNat=1:=by decide
  rw [BitVec.toNat_xor,z,h2] at h
  have:=Nat.xor_mod_two_eq_one (a:=n % 4294967296) (b:=1)
  rw [h] at this
  omega
 ·show IntKind.u32.wrap ((BitVec.ofInt 32 (n:Int) ^^^ BitVec.ofInt 32 1).toNat:Int)=_
  have:=(BitVec.ofInt 32 (n:Int) ^^^ BitVec.ofInt 32 1).isLt
  rw [IntKind.wrap_u32]
  omega
theorem WE {B g:Nat} {W:World} (E:Below B W X) (R:B<=X.heap.size) (I:∀q,v.ownBlock=some q->B<=q) (z:Grew v g X w'):Below B W w'/\B<=g:=by
 refine ⟨⟨z.jR.os.trans E.os,z.jR.tape.trans E.tape,z.jR.output.trans E.output,aW E.size z.jR.size,λq J=>(z.jR.block q (aH J R) (λe=>?_)).trans (E.block q J)⟩,?_⟩
 ·have:=I q e
  omega
 ·rcases z.own with e|e
  ·exact I g e
  ·omega
theorem acn {e E s s' n I g:Nat} {v':Value} {xs xs':List Value} (hg:Grew v g X w') (Y:Row X e s v n xs) (h:Row X E s' v' I xs') (z:E≠e):Row w' E s' v' I xs':=by
 refine h.kept λq hq=>?_
 obtain ⟨R,J⟩:=h.obj hq
 rw [hg.keep Y J z,J]
def aaF (c:Cf) (w wr:World) (p q:PU):Prop:=pJ w q.2.2 q.1.logs/\(wP w q.2.1 q.1.txs\/Row wr 68 3 q.2.1 q.1.txs.length (q.1.txs.flatMap xC))/\(q.1.txs.length<=4294967296/\q.1.logs.length<=4294967296)/\Dv.Alike c p.1 q.1/\Dv.small p.1=Dv.small q.1
structure ig (c:Cf) (w:World) (ps qs:List PU) (i:Nat) (v:Value) (wr:World):Prop where
 len:qs.length=i
 row:Row wr 42 4 v i (qs.flatMap rV)
 own:∀g,v.ownBlock=some g->w.heap.size<=g
 each:∀(j:Nat) (p q:PU),ps[j]? =some p->qs[j]? =some q->aaF c w wr p q
 bel:Below w.heap.size w wr
section
variable {c:Cf} {w wr X w5 V wx:World} {ps qs:List PU} {i g5 off5 cap5:Nat} {v:Value} {p q:PU}
theorem ig.zero:ig c w ps [] 0 (.slice none 0 0) w:=⟨rfl,Row.nil _ _ _,λg h=>(by simp [Value.ownBlock] at h),λj p q _ h=>(by simp at h),aB _ _⟩
theorem ig.add (h:ig c w ps qs i v wr) (R:Below wr.heap.size wr X) (I:Row w5 42 4 (.slice (some ⟨g5,off5,none⟩) (i+1) cap5) (i+1) (qs.flatMap rV++rV q)) (hg:Grew v g5 X w5) (hp:ps[i]? =some p) (hq:aaF c w X p q):ig c w ps (qs++[q]) (i+1) (.slice (some ⟨g5,off5,none⟩) (i+1) cap5) w5:=by
 have J:=h.bel.trans (R.mono h.bel.size)
 have hl:=WE J J.size h.own hg
 have E:∀{a b:PU},aaF c w X a b->aaF c w w5 a b:=λY=>⟨Y.1,Y.2.1.imp id (λI=>acn hg (h.row.below R) I (by decide)),Y.2.2⟩
 refine ⟨by simp [h.len],by simpa using I,λg e=>?_,λj p' q' hp' z=>?_,hl.1⟩
 ·simp only [Value.ownBlock,aC] at e
  subst e
  exact hl.2
 ·rcases fQ j qs.length with hj|hj
  ·rw [bP hj] at z
   have:=h.each j p' q' hp' z
   exact E ⟨this.1,this.2.1.imp id (λI=>I.below R),this.2.2⟩
  ·rw [bK hj] at z
   have h0:j - qs.length=0:=by
    have:=(aF.1 z).1
    simp at this
    omega
   rw [h0] at z
   simp at z
   subst z
   obtain rfl:j=i:=by have:=h.len;omega
   rw [hp] at hp'
   cases hp'
   exact E hq
theorem ig.ups (h:ig c w ps qs ps.length v wr):lN wr v qs:=by
 refine ⟨by rw [h.len];exact h.row.rd,λq E=>?_⟩
 obtain ⟨j,z⟩:=jw.1 E
 have I:=(aF.1 z).1
 obtain ⟨J,h2,h3,_⟩:=h.each j _ q (aG (by rw [<-h.len];exact I)) z
 exact ⟨h2.elim (λe=>Rd.below e h.bel) Row.rd,Rd.below J h.bel,h3⟩
theorem ig.same (h:ig c w ps qs ps.length v wr):Dv.all c (ps.map Prod.fst)=Dv.all c (qs.map Prod.fst):=by
 refine Dv.aaM (by rw [aU,aU,h.len]) λj z=>?_
 rw [aU] at z
 have E:j < qs.length:=by rw [h.len];exact z
 have:=(h.each j _ _ (aG z) (aG E)).2.2.2
 rw [getElem!_def,getElem!_def,eX,eX,aG z,aG E]
 exact this
structure SQ (c:Cf) (V:World) (l:List Tx) (k m:Nat) (L:List Tx) (v:Value) (wx:World):Prop where
 row:Row wx 68 3 v L.length (L.flatMap xC)
 own:∀g,v.ownBlock=some g->V.heap.size<=g
 bel:Below V.heap.size V wx
 heard:Dv.heard c L=Dv.heard c (l.take k)
 small:L.all (λt=>decide (t.data.length<=2000))=(l.take k).all (λt=>decide (t.data.length<=2000))
 len:L.length<=m
variable {l L:List Tx} {k m:Nat} {t:Tx}
theorem SQ.mono {z:Nat} (h:SQ c V l k m L v wx) (E:m<=z):SQ c V l k z L v wx:=⟨h.row,h.own,h.bel,h.heard,h.small,aW h.len E⟩
theorem SQ.zero:SQ c V l 0 0 [] (.slice none 0 0) V:=⟨Row.nil _ _ _,λg h=>(by simp [Value.ownBlock] at h),aB _ _,by simp,by simp,jC⟩
theorem SQ.add (h:SQ c V l k m L v wx) (Y:Below wx.heap.size wx X) (J:Row w5 68 3 (.slice (some ⟨g5,off5,none⟩) (L.length+1) cap5) (L.length+1) (L.flatMap xC++xC t)) (R:Grew v g5 X w5) {k':Nat} (I:Dv.heard c (l.take k')=Dv.heard c (l.take k)++Dv.qc c t) (e2:(l.take k').all (λt=>decide (t.data.length<=2000))=((l.take k).all (λt=>decide (t.data.length<=2000))&&decide (t.data.length<=2000))):
  SQ c V l k' (m+1) (L++[t]) (.slice (some ⟨g5,off5,none⟩) (L++[t]).length cap5) w5:=by
 have z:=h.bel.trans (Y.mono h.bel.size)
 have E:=WE z z.size h.own R
 refine ⟨by simpa using J,λg e=>?_,E.1,?_,?_,?_⟩
 ·simp only [Value.ownBlock,aC] at e
  subst e
  exact E.2
 ·rw [I,<-h.heard]
  simp [Dv.heard]
 ·rw [e2,<-h.small]
  simp
 ·have:=h.len
  simp
  omega
theorem SQ.acF (h:SQ c V l k m L v wx) (I:Below wx.heap.size wx X) (E:Row w5 68 3 (.slice (some ⟨g5,off5,none⟩) (L.length+1) cap5) (L.length+1) (L.flatMap xC++xC t)) (J:Grew v g5 X w5) (z:Dv.qc c t=[]) (R:t.data.length<=2000):SQ c V l k (m+1) (L++[t]) (.slice (some ⟨g5,off5,none⟩) (L++[t]).length cap5) w5:=
 h.add I E J (by rw [z,fU]) (by simp [R])
theorem SQ.acE (h:SQ c V l k m L v wx) (J:Below wx.heap.size wx X) (I:Row w5 68 3 (.slice (some ⟨g5,off5,none⟩) (L.length+1) cap5) (L.length+1) (L.flatMap xC++xC t)) (R:Grew v g5 X w5) (ht:l[k]? =some t):SQ c V l (k+1) (m+1) (L++[t]) (.slice (some ⟨g5,off5,none⟩) (L++[t]).length cap5) w5:=by
 have z:l.take (k+1)=l.take k++[t]:=by
  obtain ⟨E,rfl⟩:=aF.1 ht
  exact dZ E
 exact h.add J I R (by rw [z];simp [Dv.heard]) (by rw [z];simp)
theorem SQ.end (h:SQ c V l k m L v wx) (hk:l.length<=k):SQ c V l (k+1) m L v wx:=⟨h.row,h.own,h.bel,by rw [h.heard,dV hk,dV (by omega)],by rw [h.small,dV hk,dV (by omega)],h.len⟩
theorem SQ.loud (h:SQ c V l k m L v wx) (hk:l.length<=k) (J:m<=20) (E:l.length<=20) (a b:Int) (s:List (List UInt8)):Dv.Alike c ⟨a,b,l,s⟩ ⟨a,b,L,s⟩/\Dv.small ⟨a,b,l,s⟩=Dv.small ⟨a,b,L,s⟩:=by
 have z:=h.heard
 have h2:=h.small
 have h3:=h.len
 rw [dV hk] at z h2
 refine ⟨⟨⟨rfl,rfl,rfl⟩,z.symm⟩,?_⟩
 unfold Dv.small
 dsimp only
 rw [h2]
 have e:∀n:Nat,n<=20->decide (n<=20/\s.length<=20)=decide (s.length<=20):=λn I=>by simp [I]
 rw [e _ E,e _ (by omega)]
end
noncomputable def abN:Code:=match Tryz.f8.body with
 |some (.seq c _)=>c
 |_=>.skip
noncomputable def aaU:Code:=match Tryz.f8.body with
 |some (.seq _ (.seq c _))=>c
 |_=>.skip
noncomputable def abO:Code:=match Tryz.f8.body with
 |some (.seq _ (.seq _ (.seq c _)))=>c
 |_=>.skip
noncomputable def abI:Code:=match Tryz.f8.body with
 |some (.seq _ (.seq _ (.seq _ (.seq c _))))=>c
 |_=>.skip
noncomputable def l9:Code:=match Tryz.f8.body with
 |some (.seq _ (.seq _ (.seq _ (.seq _ (.seq c _)))))=>c
 |_=>.skip
noncomputable def V3:Code:=match Tryz.f8.body with
 |some (.seq _ (.seq _ (.seq _ (.seq _ (.seq _ (.seq c _))))))=>c
 |_=>.skip
theorem aaK:Tryz.f8.body=some (.seq abN (.seq aaU (.seq abO (.seq abI (.seq l9 (.seq V3 .ret)))))):=by kernel_rfl
end
theorem acr {tm:Array Value} (c:Cf) (bc vc oc ic:Nat) (xa oa ia:Option Addr) (ps:List PU) (os:List Tx) (is:List Int) (w:World) (hs:tm.size=116) (t1:tm[1]? =some (.slice xa ps.length vc)) (t2:tm[2]? =some (.slice oa os.length oc)) (t3:tm[3]? =some (.slice ia is.length ic)) (t4:tm[4]? =some (.pointer (some ⟨bc,0,none⟩))) (t10:tm[10]? =some (.slice none 0 0))
  (ay:w.cell? ⟨bc,0,none⟩=some (.int .u32 c.inbox)) (a1:w.cell? ⟨bc,1,none⟩=some (.int .u32 c.batcher)) (ap:bc < w.heap.size) (ag:lN w (.slice xa ps.length vc) ps) (cj:ps.length<=4294967296) (ai:wP w (.slice oa os.length oc) os) (cd:os.length<=4294967296) (aa:Rd w 1 (.slice ia is.length ic) is.length (is.map (.int .i64))) (cn:is.length<=4294967296) (I:∀i,-9223372036854775808<=Yn is i/\Yn is i<=9223372036854775807) {Q:Exit->Act->World->Prop}
  (hQ:∀(az:Array Value) (W:World) (qs:List PU) (ra:Option Addr) (rc:Nat),az.size=116->az[1]? =some (.slice xa ps.length vc)->az[4]? =some (.pointer (some ⟨bc,0,none⟩))->az[10]? =some (.slice ra ps.length rc)->ig c w ps qs ps.length (.slice ra ps.length rc) W->Q .normal { tmps:=az,defers:=[] } W):l9.wp PQ Q { tmps:=tm,defers:=[] } w:=by
 obtain ⟨l,rfl⟩:∃l:List Value,tm=l.toArray:=⟨tm.toList,by simp⟩
 replace hs:l.length=116:=by simpa using hs
 iterate 116 (obtain ⟨_,l,rfl,h⟩:=aa0 hs;clear hs;have hs:=h;clear h)
 obtain rfl:=List.length_eq_zero_iff.1 hs
 clear hs
 simp only [dY,dX,dQ,aC] at t1 t2 t3 t4 t10
 subst t1 t2 t3 t4 t10
 as_aux_lemma=>
  obtain ⟨m,hm⟩:∃m,ps.length=m:=⟨_,rfl⟩
  obtain ⟨no,ak⟩:∃m,os.length=m:=⟨_,rfl⟩
  obtain ⟨ni,af⟩:∃m,is.length=m:=⟨_,rfl⟩
  have HQ:Hid _:=hQ
  have H:Hid _:=jB ag (jB ai (jB aa (jB I (jB hm (jB ak af)))))
  have HB:Hid _:=jB ay (jB a1 ap)
  rw [hm] at cj
  rw [ak] at cd
  rw [af] at cn
  clear ag ai aa I ay a1 ap hQ
  rw [hm,ak,af]
  clear hm ak af
  obtain ⟨iu,bo,b0,bd,bq⟩:=info_parts KG
  obtain ⟨it,bw,bk,bg,b7⟩:=info_parts aco
  have Hu:Hid _:=jB bo (jB b0 (jB bd bq))
  have Ht:Hid _:=jB bw (jB bk (jB bg b7))
  clear bo b0 bd bq bw bk bg b7
  simp only [l9,Tryz.f8]
  go_wp2_with fail
  go_loopg [10,11] m (λgg ci cb wr=>∃(i:Nat) (qs:List PU) (ra:Option Addr) (rc:Nat),i<=m/\cb=.int .i64 i/\ci=.slice ra i rc/\gg=m - i/\Hid (ig c w ps qs i (.slice ra i rc) wr))
  case atStart=>exact ⟨0,[],none,0,dF _,rfl,rfl,rfl,ig.zero⟩
  case round=>
   obtain ⟨i,qs,ra,rc,hi,rfl,rfl,rfl,HI⟩:=hrel
   by_cases cy:i < m
   ·have b5:(i:Int) < (m:Int):=by omega
    obtain ⟨ag,ai,aa,I,hm,ak,af⟩:=H.out
    obtain ⟨⟨⟨ab,ut,ah,ul⟩,vt,vl⟩,hp⟩:∃x,ps[i]? =some x:=⟨_,aG (by omega)⟩
    have z:=ag.2 _ (aQ hp)
    dsimp only at z
    obtain ⟨ta,tc,bp⟩:=Rd.slice z.1
    obtain ⟨la,lc,bu⟩:=Rd.slice z.2.1
    dsimp only at bp bu
    subst bp bu
    obtain ⟨g,off,cap,hv,_⟩:=ag.1.pos (by omega)
    simp only [Value.slice.injEq,true_and] at hv
    obtain ⟨rfl,rfl⟩:=hv
    obtain ⟨d0,d1,d2,d3⟩:=(ag.below HI.out.bel).get hp
    dsimp only at d0 d1 d2 d3
    obtain ⟨N,hN⟩:∃N,ah.length=N:=⟨_,rfl⟩
    obtain ⟨nl,au⟩:∃N,ul.length=N:=⟨_,rfl⟩
    rw [hN] at d2
    rw [au] at d3
    have cx:N<=4294967296:=by rw [<-hN];exact z.2.2.1
    have HP:Hid _:=jB hp (jB z (jB hN au))
    have aw:Hid _:=λ(V:World) (hV:Below wr.heap.size wr V)=>HI.out.row.below hV
    have h0:=HI.out.bel.size
    clear ag ai aa I hm ak af hp z hN au
    by_cases cu:no=0\/20<=N
    ·have bv:(((no:Int) == 0)=true/\(no:Int)=0)\/(((no:Int) == 0)=false/\¬(no:Int)=0/\decide ((20:Int)<=(N:Int))=true/\(20:Int)<=(N:Int)):=by
      by_cases h:no=0
      ·exact .inl ⟨by simp [h],by omega⟩
      ·exact .inr ⟨beq_false_of_ne (by omega),by omega,decide_eq_true (by omega),by omega⟩
     rcases bv with ⟨b1,b2⟩|⟨b1,b2,b3,b4⟩
     all_goals
      go_wp2_with (first|(at_builtin;refine lW _ rfl (.tmp 39) (.tmp 41) 25 rfl 42 iu _ 4 64 (uq Tryz.underlying25) Hu.out.1 Hu.out.2.1 Hu.out.2.2.1 Hu.out.2.2.2 rfl (by decide) _ i _ rfl (aw.out _ (((aB _ wr).alloc jC _).alloc (by simp) _)) ⟨wr.heap.size+1,0,none⟩ 1 1 [.int .i64 ab,.int .i64 ut,.slice ta N tc,.slice la nl lc] rfl (by decide) rfl (λj u hj=>DR (by simp) j u hj) (by intro u hu;simp at hu;rcases hu with rfl|rfl|rfl|rfl<;>rfl) (by unfold maxLen;omega) (by omega) ?_;intro g5 am an w5 E R;have ae:Hid _:=jB E R;clear E R)|go_in)
      go_roundg (m - (i+1))
      case measure=>omega
      case rel=>
       obtain ⟨hp,z,rfl,rfl⟩:=HP.out
       exact ⟨i+1,_,_,_,by omega,by go_num,rfl,rfl,HI.out.add (q:=(⟨ab,ut,ah,ul⟩,.slice ta ah.length tc,.slice la ul.length lc)) (((aB _ wr).alloc jC _).alloc (by simp) _) ae.out.1 ae.out.2 hp ⟨z.2.1,.inl z.1,z.2.2,⟨⟨rfl,rfl,rfl⟩,rfl⟩,rfl⟩⟩
    ·have b1:((no:Int) == 0)=false:=beq_false_of_ne (by omega)
     have b2:¬(no:Int)=0:=by omega
     have b3:decide ((20:Int)<=(N:Int))=false:=decide_eq_false (by omega)
     have b4:¬(20:Int)<=(N:Int):=by omega
     obtain ⟨ag,ai,aa,I,hm,ak,af⟩:=H.out
     obtain ⟨J,hJ⟩:∃J,i % no=J:=⟨_,rfl⟩
     have ce:J < no:=by rw [<-hJ];exact Nat.mod_lt _ (by omega)
     have bs:(i:Int).tmod (no:Int)=(J:Int):=by rw [<-hJ];simp [Int.tmod_eq_emod_of_nonneg]
     have ca:IntKind.i64.wrap (J:Int)=(J:Int):=by rw [IntKind.wrap_i64];omega
     obtain ⟨⟨fr,tw,dt⟩,ho⟩:∃x,os[J]? =some x:=⟨_,aG (by omega)⟩
     obtain ⟨og,oo,cp,hv,_⟩:=Rd.pos ai (by omega)
     simp only [Value.slice.injEq,true_and] at hv
     obtain ⟨rfl,rfl⟩:=hv
     obtain ⟨e0,e1,e2⟩:=wP.get (Rd.below ai HI.out.bel) ho
     dsimp only at e0 e1 e2
     obtain ⟨DB,hD⟩:∃D:ByteArray,(⟨dt.toArray⟩:ByteArray)=D:=⟨_,rfl⟩
     rw [hD] at e2
     have E0:=Qk e0
     have E1:=Qk e1
     have E2:=Qk e2
     obtain ⟨ay,a1,ap⟩:=HB.out
     have c0:wr.cell? ⟨bc,0,none⟩=some (.int .u32 c.inbox):=(HI.out.bel.cell (p:=⟨bc,0,none⟩) ap).trans ay
     have c1:wr.cell? ⟨bc,1,none⟩=some (.int .u32 c.batcher):=(HI.out.bel.cell (p:=⟨bc,1,none⟩) ap).trans a1
     have C0:=λo o'=>Qk (Qk c0 o) o'
     have C1:=λo o'=>Qk (Qk c1 o) o'
     have HW:Hid _:=jB aa I
     clear ag ai aa I hm ak af ho ay a1 ap hJ
     obtain ⟨ib,I⟩:∃k,c.inbox=k:=⟨_,rfl⟩
     obtain ⟨bt,a7⟩:∃k,c.batcher=k:=⟨_,rfl⟩
     rw [I] at C0
     rw [a7] at C1
     have HC:Hid _:=jB I a7
     clear c0 c1 I a7
     go_upto_region 12 with fail
     go_cut [61] from 20 to 111 (λv wx=>v=.bool (decide (fr=bt/\tw=ib))/\wx=(wr.alloc (.cells #[.int .i64 ab,.int .i64 ut,.slice ta N tc,.slice la nl lc] 42)).alloc (.cells #[.int .u32 fr,.int .u32 tw,.string DB] 68))
     case first=>
      by_cases ar:fr=bt
      ·have q1:((fr:Int) == (bt:Int))=true:=by simp [ar]
       by_cases av:tw=ib
       ·have q2:((tw:Int) == (ib:Int))=true:=by simp [av]
        have HT:Hid _:=jB ar av
        clear ar av
        go_wp2_with fail
        go_meet
        case rel=>exact ⟨congrArg Value.bool (decide_eq_true HT.out).symm,rfl⟩
       ·have q2:((tw:Int) == (ib:Int))=false:=beq_false_of_ne (by omega)
        have HT:Hid _:=av
        clear ar av
        go_wp2_with fail
        go_meet
        case rel=>exact ⟨congrArg Value.bool (decide_eq_false λh=>HT.out h.2).symm,rfl⟩
      ·have q1:((fr:Int) == (bt:Int))=false:=beq_false_of_ne (by omega)
       have HT:Hid _:=ar
       clear ar
       go_wp2_with fail
       go_meet
       case rel=>exact ⟨congrArg Value.bool (decide_eq_false λh=>HT.out h.1).symm,rfl⟩
     case rest=>
      obtain ⟨rfl,rfl⟩:=hcut
      obtain ⟨fb,bz⟩:∃b,decide (fr=bt/\tw=ib)=b:=⟨_,rfl⟩
      rw [bz]
      go_upto_if 61 with fail
      go_cut [13] from 20 to 111 (λv wx=>v=.pointer (some ⟨wr.heap.size+1,0,none⟩)/\∃T:Nat,¬(fr=bt/\T=ib)/\wx=(wr.alloc (.cells #[.int .i64 ab,.int .i64 ut,.slice ta N tc,.slice la nl lc] 42)).alloc (.cells #[.int .u32 fr,.int .u32 T,.string DB] 68))
      case first=>
       cases fb
       ·go_wp2_with fail
        go_meet
        case rel=>exact ⟨rfl,tw,of_decide_eq_false bz,rfl⟩
       ·go_wp2_with fail
        go_meet
        case rel=>
         obtain ⟨T,hT,hx⟩:=acA ib
         exact ⟨rfl,T,λh=>hT h.2,by rw [hx]⟩
      case rest=>
       obtain ⟨rfl,T,hT,rfl⟩:=hcut
       go_upto_if 69 with fail
       go_cut [13] from 20 to 111 (λv wx=>v=.pointer (some ⟨wr.heap.size+1,0,none⟩)/\∃D:ByteArray,D.size<=2000/\wx=(wr.alloc (.cells #[.int .i64 ab,.int .i64 ut,.slice ta N tc,.slice la nl lc] 42)).alloc (.cells #[.int .u32 fr,.int .u32 T,.string D] 68))
       case first=>
        by_cases hd:2000 < DB.size
        ·have q1:decide ((2000:Int) < (DB.size:Int))=true:=decide_eq_true (by omega)
         have q2:(2000:Int) < (DB.size:Int):=by omega
         go_wp2_with fail
         go_meet
         case rel=>exact ⟨rfl,_,by decide,rfl⟩
        ·have q1:decide ((2000:Int) < (DB.size:Int))=false:=decide_eq_false (by omega)
         have q2:¬(2000:Int) < (DB.size:Int):=by omega
         go_wp2_with fail
         go_meet
         case rel=>exact ⟨rfl,DB,by omega,rfl⟩
       case rest=>
        obtain ⟨rfl,D,a4,rfl⟩:=hcut
        have HX:Hid _:=jB hT a4
        clear hT a4 E0 E1 E2 C0 C1 e0 e1 e2 d0 d1 d2 d3 bs ca ce b1 b2 b3 b4
        obtain ⟨X,hX⟩:∃X,X=(wr.alloc (.cells #[.int .i64 ab,.int .i64 ut,.slice ta N tc,.slice la nl lc] 42)).alloc (.cells #[.int .u32 fr,.int .u32 T,.string D] 68):=⟨_,rfl⟩
        rw [<-hX]
        have Y:X.heap[wr.heap.size]? =some (.cells #[.int .i64 ab,.int .i64 ut,.slice ta N tc,.slice la nl lc] 42 (0,0)):=by
         rw [hX,aT _ _ _ (by simp)]
         exact heap_alloc_new _ _
        have x2:X.heap[wr.heap.size+1]? =some (.cells #[.int .u32 fr,.int .u32 T,.string D] 68 (0,0)):=by
         rw [hX]
         have:=heap_alloc_new (wr.alloc (.cells #[.int .i64 ab,.int .i64 ut,.slice ta N tc,.slice la nl lc] 42)) (.cells #[.int .u32 fr,.int .u32 T,.string D] 68)
         simpa using this
        have aq:Below wr.heap.size wr X:=by rw [hX];exact ((aB _ wr).alloc jC _).alloc (by simp) _
        have y2:X.cell? ⟨wr.heap.size,2,none⟩=some (.slice ta N tc):=jF Y rfl
        obtain ⟨aa,I⟩:=HW.out
        have af:=H.out.2.2.2.2.2.2
        have I:=I i
        obtain ⟨a0,bb⟩:∃a0,Yn is i=a0:=⟨_,rfl⟩
        rw [bb] at I
        have cm:=acz (c:=a0) (n:=(N:Int)+1) (by omega)
        obtain ⟨P,hP⟩:∃P:Nat,(P:Int)=pk a0 ((N:Int)+1):=⟨(pk a0 ((N:Int)+1)).toNat,by omega⟩
        have c2:P<=N:=by omega
        have ba:=λm=>acC _ is i (X.drewN m) (Rd.below aa (below_drewN (HI.out.bel.trans (aq.mono HI.out.bel.size)) m)) (by omega)
        have ao:=λm=>pick_any a0 ((N:Int)+1) (X.drewN m) (by omega) (by omega) I.1 I.2
        simp only [bb,af] at ba
        simp only [<-hP] at ao
        have bl:Hid _:=ba
        have ax:Hid _:=ao
        have cl:Hid _:=jB Y (jB x2 aq)
        clear ba ao aa I bb cm hP af Y x2 aq hX
        go_upto_region 16 with fail
        go_quiet (first|(go_at_call 24;exact Calls.quiet_of_same (bl.out _))|(go_at_call 22;exact Calls.quiet_of_same (ax.out _)))
        generalize hV:World.drewN _ _=V
        have bj:V.heap=X.heap:=by rw [<-hV];rfl
        obtain ⟨Y,x2,aq⟩:=cl.out
        rw [<-bj] at Y x2
        have ac:Below wr.heap.size wr V:=by rw [<-hV];exact below_drewN aq _
        have bh:wr.heap.size+1 < V.heap.size:=(jE x2)
        have aj:Below w.heap.size w V:=HI.out.bel.trans (ac.mono HI.out.bel.size)
        obtain ⟨b,hb⟩:∃b,wr.heap.size=b:=⟨_,rfl⟩
        rw [hb] at Y x2 ac bh aw⊢
        have bx:Hid _:=jB Y (jB x2 (jB ac (jB aj hb)))
        clear hV bj Y x2 aq ac y2 bl ax aj hb h0
        go_wp2_with fail
        go_loopg [15,16] (N+1) (λgg b8 b9 wx=>∃(k:Nat) (L:List Tx) (sa:Option Addr) (sc:Nat),k<=N+1/\b9=.int .i64 k/\b8=.slice sa L.length sc/\gg=N+1 - k/\Hid (SQ c V ah k (min k N+(if P < k then 1 else 0)) L (.slice sa L.length sc) wx))
        case atStart=>exact ⟨0,[],none,0,dF _,rfl,rfl,rfl,SQ.zero.mono (dF _)⟩
        case round=>
         obtain ⟨k,L,sa,sc,hk,rfl,rfl,rfl,HJ⟩:=hrel
         obtain ⟨Y,x2,ac,aj,hb⟩:=bx.out
         have Y:=(HJ.out.bel.block _ (by omega)).trans Y
         have x2:=(HJ.out.bel.block _ bh).trans x2
         have z2:wr.cell? ⟨b,2,none⟩=some (.slice ta N tc):=jF Y rfl
         by_cases cw:k<=N
         ·have bn:(k:Int)<=(N:Int):=by omega
          have y0:wr.cell? ⟨b+1,0,none⟩=some (.int .u32 fr):=jF x2 rfl
          have y1:wr.cell? ⟨b+1,1,none⟩=some (.int .u32 T):=jF x2 rfl
          have y2:wr.cell? ⟨b+1,2,none⟩=some (.string D):=jF x2 rfl
          have ck:=HJ.out.len
          have cc:(if P < k then 1 else 0)<=1:=by split<;>omega
          clear Y x2 ac aj hb
          go_upto_if 88 with fail
          go_cut [15] from 79 to 105 (λv wx=>∃(L1:List Tx) (sa1:Option Addr) (a2:Nat),v=.slice sa1 L1.length a2/\Hid (SQ c V ah k (min k N+(if P < k+1 then 1 else 0)) L1 (.slice sa1 L1.length a2) wx))
          case first=>
           by_cases a3:k=P
           ·have q1:((k:Int) == (P:Int))=true:=by simp [a3]
            have co:Hid _:=a3
            clear a3
            go_wp2_with (first|(at_builtin;refine lW _ rfl (.tmp 89) (.tmp 91) 39 rfl 68 it _ 3 24 (uq Tryz.underlying39) Ht.out.1 Ht.out.2.1 Ht.out.2.2.1 Ht.out.2.2.2 rfl (by decide) _ L.length _ rfl (HJ.out.row.below ((aB _ wr).alloc jC _)) ⟨wr.heap.size,0,none⟩ 1 1 [.int .u32 fr,.int .u32 T,.string D] rfl (by decide) rfl (λj u hj=>DR rfl j u hj) (by intro u hu;simp at hu;rcases hu with rfl|rfl|rfl<;>rfl) (by unfold maxLen;omega) (by omega) ?_;intro g5 am an w5 E R;have ae:Hid _:=jB E R;clear E R)|go_in)
            go_meet
            case rel=>
             have e:xC ⟨fr,T,D.data.toList⟩=[.int .u32 fr,.int .u32 T,.string D]:=by simp [xC]
             obtain ⟨hT,a4⟩:=HX.out
             have a3:=co.out
             obtain ⟨rfl,rfl⟩:=HC.out
             refine ⟨L++[(⟨fr,T,D.data.toList⟩:Tx)],some ⟨g5,am,none⟩,an,by simp,(HJ.out.acF (t:=⟨fr,T,D.data.toList⟩) ((aB _ wr).alloc jC _) (by rw [e];exact ae.out.1) ae.out.2 ?_ a4).mono ?_⟩
             ·unfold Dv.qc
              exact if_neg λh=>hT ⟨h.2,h.1⟩
             ·rw [if_neg (by omega),if_pos (by omega)]
              exact jC
           ·have q1:((k:Int) == (P:Int))=false:=beq_false_of_ne (by omega)
            go_wp2_with fail
            go_meet
            case rel=>exact ⟨L,sa,sc,rfl,HJ.out.mono (by split<;>split<;>omega)⟩
          case rest=>
           obtain ⟨L1,sa1,a2,rfl,HK⟩:=hcut
           obtain ⟨Y,x2,ac,aj,hb⟩:=bx.out
           have Y:=(HK.out.bel.block _ (by omega)).trans Y
           have z2:wc.cell? ⟨b,2,none⟩=some (.slice ta N tc):=jF Y rfl
           have cz:=HK.out.len
           have cc:(if P < k+1 then 1 else 0)<=1:=by split<;>omega
           obtain ⟨hp,z,hN,au⟩:=HP.out
           by_cases ct:k < N
           ·have bm:(k:Int) < (N:Int):=by omega
            obtain ⟨⟨f2,s2,a6⟩,ht⟩:∃x,ah[k]? =some x:=⟨_,aG (by omega)⟩
            obtain ⟨tg,cq,cr,hv,_⟩:=Rd.pos z.1 (show 0 < ah.length by omega)
            simp only [Value.slice.injEq,true_and] at hv
            obtain ⟨rfl,rfl⟩:=hv
            obtain ⟨e0,e1,e2⟩:=wP.get (Rd.below z.1 (aj.trans (HK.out.bel.mono aj.size))) ht
            dsimp only at e0 e1 e2
            obtain ⟨D2,a8⟩:∃D:ByteArray,(⟨a6.toArray⟩:ByteArray)=D:=⟨_,rfl⟩
            rw [a8] at e2
            have HT:Hid _:=jB ht a8
            clear Y x2 ac aj hb hp z hN au ht a8
            go_wp2_with (first|(at_builtin;refine lW _ rfl (.tmp 98) (.tmp 104) 39 rfl 68 it _ 3 24 (uq Tryz.underlying39) Ht.out.1 Ht.out.2.1 Ht.out.2.2.1 Ht.out.2.2.2 rfl (by decide) _ L1.length _ rfl (HK.out.row.below ((aB _ wc).alloc jC _)) ⟨wc.heap.size,0,none⟩ 1 1 [.int .u32 f2,.int .u32 s2,.string D2] rfl (by decide) rfl (λj u hj=>DR rfl j u hj) (by intro u hu;simp at hu;rcases hu with rfl|rfl|rfl<;>rfl) (by unfold maxLen;omega) (by omega) ?_;intro g5 am an w5 E R;have ae:Hid _:=jB E R;clear E R)|go_in)
            go_roundg (N+1 - (k+1))
            case measure=>omega
            case rel=>
             obtain ⟨ht,rfl⟩:=HT.out
             have q:=HK.out.acE (t:=⟨f2,s2,a6⟩) ((aB _ wc).alloc jC _) ae.out.1 ae.out.2 ht
             refine ⟨k+1,L1++[(⟨f2,s2,a6⟩:Tx)],some ⟨g5,am,none⟩,an,by omega,by go_num,by simp,rfl,?_⟩
             exact q.mono (by omega)
           ·have bm:¬(k:Int) < (N:Int):=by omega
            have HT:Hid _:=hN
            clear Y x2 ac aj hb hp z hN au
            go_wp2_with fail
            go_roundg (N+1 - (k+1))
            case measure=>omega
            case rel=>exact ⟨k+1,L1,sa1,a2,by omega,by go_num,rfl,rfl,(HK.out.end (by rw [HT.out];omega)).mono (by omega)⟩
         ·have bn:¬(k:Int)<=(N:Int):=by omega
          obtain rfl:k=N+1:=by omega
          have z0:wr.cell? ⟨b,0,none⟩=some (.int .i64 ab):=jF Y rfl
          have z1:wr.cell? ⟨b,1,none⟩=some (.int .i64 ut):=jF Y rfl
          have z3:wr.cell? ⟨b,3,none⟩=some (.slice la nl lc):=jF Y rfl
          have fz:=aI Y
          have a9:=ac.trans (HJ.out.bel.mono (by omega))
          have b6:Hid _:=λ(v:Value) (o:Obj)=>(a9.setCell (p:=⟨b,2,none⟩) (Nat.le_refl b) v).alloc (by rw [World.size_setCell];have:=a9.size;omega) o
          have cf:Hid _:=jB Y hb
          clear Y x2 ac aj hb a9
          go_wp2_with (first|(at_builtin;refine lW _ rfl (.tmp 108) (.tmp 110) 25 rfl 42 iu _ 4 64 (uq Tryz.underlying25) Hu.out.1 Hu.out.2.1 Hu.out.2.2.1 Hu.out.2.2.2 rfl (by decide) _ i _ rfl (aw.out _ (b6.out _ _)) ⟨wr.heap.size,0,none⟩ 1 1 [.int .i64 ab,.int .i64 ut,.slice sa L.length sc,.slice la nl lc] rfl (by decide) rfl (λj u hj=>DR (by simp) j u hj) (by intro u hu;simp at hu;rcases hu with rfl|rfl|rfl|rfl<;>rfl) (by unfold maxLen;omega) (by omega) ?_;intro g5 am an w5 E R;have ae:Hid _:=jB E R;clear E R)|go_in)
          go_roundg (m - (i+1))
          case measure=>omega
          case rel=>
           obtain ⟨hp,z,rfl,rfl⟩:=HP.out
           obtain ⟨Y,hb⟩:=cf.out
           have br:min (ah.length+1) ah.length+(if P < ah.length+1 then 1 else 0)<=20:=by split<;>omega
           have a5:=HJ.out.row
           have ck:=HJ.out.len
           refine ⟨i+1,_,_,_,by omega,by go_num,rfl,rfl,HI.out.add (q:=(⟨ab,ut,L,ul⟩,.slice sa L.length sc,.slice la ul.length lc)) (by rw [hb];exact b6.out _ _) ae.out.1 ae.out.2 hp ⟨z.2.1,.inr (Row.below (Row.kept a5 λg hg=>?_) ((Below.refl _ _).alloc jC _)),⟨by dsimp only;omega,z.2.2.2⟩,HJ.out.loud (by omega) br (by omega) ab ut ul⟩⟩
           refine aP _ _ _ _ λe=>?_
           obtain ⟨cv,hc⟩:=a5.obj hg
           dsimp only at e
           subst e
           rw [Y] at hc
           simp at hc
   ·have b5:¬(i:Int) < (m:Int):=by omega
    obtain rfl:i=m:=by omega
    obtain ⟨ag,ai,aa,I,rfl,rfl,rfl⟩:=H.out
    have cg:=HI.out
    clear ag ai aa I
    go_wp2_with fail
    exact HQ.out _ _ qs ra rc rfl rfl rfl rfl cg
end Hm
namespace Pa
open Go Go.Conc Go.RowKit Go.Joins
open Hm (ptr jI kF oG lN PU abN aaU abO abI l9 V3 wP Rd Yn)
open Dv (U Cf Tx)
open Po hiding U H B IT PR NB
section
noncomputable def aby:Array Oper:=match aaU with
 |.region _ ops _=>ops
 |_=>#[]
theorem ach:∃z,aaU=.region z aby false:=⟨_,rfl⟩
theorem WT:List.range aby.size=[0,1]:=by kernel_rfl
noncomputable def ZC:Array Oper:=match V3 with
 |.region _ ops _=>ops
 |_=>#[]
theorem ab4:∃z,V3=.region z ZC false:=⟨_,rfl⟩
theorem V4:List.range ZC.size=[0,1,2,3,4]:=by kernel_rfl
theorem Oo {w w':World} {s n:Nat} {v:Value} {xs:List Value} (h:Rd w s v n xs) (z:kF (λ_=>False) w w'):Rd w' s v n xs:=Hm.Rd.kept h z.size (λ_ g _ E=>z.block g E (λe=>e))
section
variable {Post:Eh} {D:Nat->Prop} {w:World} {c:Cf} {ps:List PU} {os:List Tx} {is:List Int} {xa oa ia:Option Addr} {vc oc ic:Nat}
theorem Y2 (rd:Cr.ReadW) (a6:Tryz.prog.globals.size<=w.heap.size) (ag:lN w (.slice xa ps.length vc) ps) (ab:ps.length<=4294967296) (ax:wP w (.slice oa os.length oc) os) (av:os.length<=4294967296) (au:Rd w 1 (.slice ia is.length ic) is.length (is.map (.int .i64))) (a4:is.length<=4294967296) (az:∀i,-9223372036854775808<=Yn is i/\Yn is i<=9223372036854775807) (hH:pV w)
  (ac:∀D' w' y,kF (λ_=>False) w w'->WP (qe Tryz.prog.funcs D') w' y->Keep (qe Tryz.prog.funcs D') Post y->Post.post (.bool true) y):
  Wq D Post [] ((base 8).at { tmps:=#[.agg (jI c),.slice xa ps.length vc,.slice oa os.length oc,.slice ia is.length ic]++Array.replicate 112 undef,defers:=[] } [.code (.seq abN (.seq aaU (.seq abO (.seq abI (.seq l9 (.seq V3 .ret))))))]) [] w:=by
 simp only [cO,bZ,dN,cZ,dM,dH]
 obtain ⟨w1,R⟩:∃w1,w1=w.alloc (.cells (jI c) 24):=⟨_,rfl⟩
 have ae:kF (λ_=>False) w w1:=um (by rw [R])
 have ak:w1.heap[w.heap.size]? =some (.cells (jI c) 24 (0,0)):=by rw [R];exact heap_alloc_new _ _
 have cf:∀{v:World},kF (λ_=>False) w1 v->v.heap[w.heap.size]? =some (.cells (jI c) 24 (0,0)):=λh=>(h.block _ (jE ak) (λe=>e)).trans ak
 refine Wq.seq (Wq.walk λt d Q J _=>?_)
 have HN:Hid _:=J
 clear J
 simp only [abN,Tryz.f8,jI]
 go_wp2_with fail
 refine HN.out _ _ (Wq.same (y:=w1) (λ_ _=>by rw [R];rfl) (Wq.seq ?_))
 clear HN
 rw [show (on w t d).heap.size=w.heap.size from rfl]
 have s1:=ae.size
 obtain ⟨r1,aq⟩:=ach
 rw [aq]
 refine Wq.region ?_
 rw [WT]
 obtain ⟨y0,am,a3,a0,ar⟩:∃o,aby[0]? =some o/\o.op=.call { callee:=.value (.func 21),args:=#[],argTypes:=#[] }/\o.dst=some 17/\o.guard=none:=⟨_,rfl,rfl,rfl,rfl⟩
 refine UG rd am (Cr.kG ar) a3 (by omega) (hH.kept ae) λD2 w2 Y=>?_
 rw [a0]
 have z:=ae.trans Y (λ_ _ e=>e)
 have af:=cf Y
 have s2:=z.size
 simp only [Act.put,bH,dJ,dI]
 refine Wq.zF (.assign (.tmp 17)) (some 9) (.bool true) w2 rfl (λt d o h=>by unfold execOp;simp only [h];rfl) (Wq.done ?_)
 simp only [Act.put,bH,dJ,dI]
 refine Wq.seq (Wq.walk λt d Q J _=>?_)
 have HN:Hid _:=J
 clear J
 simp only [abO,Tryz.f8]
 go_wp2_with fail
 refine HN.out _ _ (Wq.same (y:=w2) (λ_ _=>rfl) (Wq.seq (Wq.walk λt d Q J _=>?_)))
 have HN:Hid _:=J
 clear J
 simp only [abI,Tryz.f8]
 go_wp2_with fail
 refine HN.out _ _ (Wq.same (y:=w2) (λ_ _=>rfl) (Wq.seq ?_))
 clear HN
 have aj:=su (w:=w2) af
 have ah:=rW ag z
 refine Wq.walk λt d Q J _=>Hm.acr c w.heap.size vc oc ic xa oa ia ps os is (on w2 t d) rfl rfl rfl rfl rfl rfl (aj 0) (aj 1) (jE af) (rW ah (Yq rfl)) ab (Oo (Oo ax z) (Yq rfl)) av (Oo (Oo au z) (Yq rfl)) a4 az (λI w3 qs ra rc z0 z1 z4 an hU=>J _ _ (Wq.seq ?_))
 have aa:kF (λ_=>False) w2 w3:=((Hm.jL.below hU.bel jC (λ_=>False)).h).heaps rfl rfl
 have E:=z.trans aa (λ_ _ e=>e)
 have s3:=E.size
 have ay:=cf (Y.trans aa (λ_ _ e=>e))
 obtain ⟨a5,ai⟩:=ab4
 rw [ai]
 refine Wq.region ?_
 rw [V4]
 have ev:∀{s:Nat} {v:Value} {I:Array Value},I[s]? =some v->(Act.mk I []).eval (.tmp s)=v:=λh=>by simp [Act.eval,h]
 have put:∀{s s':Nat} {v u:Value} {I:Array Value},I[s]? =some v->s'≠s->(I.setIfInBounds s' u)[s]? =some v:=λh hn=>by rw [aO,if_neg hn];exact h
 have new:∀{s:Nat} {u:Value} {I:Array Value},s < I.size->(I.setIfInBounds s u)[s]? =some u:=λh=>by rw [aO,if_pos rfl,if_pos h]
 refine Wq.zF (.load 24 (.tmp 4)) (some 112) (.agg (jI c)) w3 rfl (V7 ay (ev z4)) ?_
 refine Wq.zF (.move (.tmp 1)) (some 113) (.slice xa ps.length vc) w3 rfl (λt d o h=>by unfold execOp;simp only [h,Act.put,ev (put z1 (by decide:112≠1))];rfl) ?_
 refine Wq.zF (.move (.tmp 10)) (some 114) (.slice ra ps.length rc) w3 rfl (λt d o h=>by unfold execOp;simp only [h,Act.put,ev (put (put an (by decide:112≠10)) (by decide:113≠10))];rfl) ?_
 obtain ⟨y3,a1,ap,ao,aw⟩:∃o,ZC[3]? =some o/\o.op=.call { callee:=.value (.func 29),args:=#[.tmp 112,.tmp 113,.tmp 114],argTypes:=#[24,25,25] }/\o.dst=some 115/\o.guard=none:=⟨_,rfl,rfl,rfl,rfl⟩
 simp only [Act.put]
 refine abD rd (c:=c) (ps:=ps) (qs:=qs) (xa:=xa) (xb:=ra) (vc:=vc) (vd:=rc) a1 (Cr.kG aw) ap (ev (put (put (new (by omega)) (by decide)) (by decide))) (ev (put (new (by rw [jh];omega)) (by decide))) (by rw [hU.len];exact ev (new (by rw [jh,jh];omega))) (by omega) (rW ah aa) (by rw [hU.len];exact hU.ups) ab (by rw [hU.len];exact ab) (hH.kept E) hU.same λD5 w5 a2=>?_
 rw [ao]
 simp only [Act.put]
 generalize hT:((I.setIfInBounds 112 _).setIfInBounds 113 _).setIfInBounds 114 _=T
 have a7:T.size=116:=by rw [<-hT];simp only [jh];exact z0
 refine Wq.zF (.assign (.tmp 115)) (some 8) (.bool true) w5 rfl (λt d o h=>by unfold execOp;simp only [h];rw [ev (new (by omega))];rfl) (Wq.done (Wq.ret λtodo=>?_))
 exact Wq.last (v:=.bool true) (fn:=Tryz.f8) rfl rfl rfl Tryz.func8 (by kernel_rfl) (λw=>by
  have:((T.setIfInBounds 115 (.bool true)).setIfInBounds 8 (.bool true))[8]? =some (Value.bool true):=new (by rw [jh];omega)
  simp [results,Tryz.results8,go_sem,Frame.at,Act.put,this]) (λw=>by simp [results,Tryz.results8,go_sem]) (ac D5 w5 · (E.trans a2 (λ_ _ e=>e)))
end
end
end Pa
section
open Go.ChangeShapes Go.WideShapes Go.ChangeAt Go.RowKit
theorem Ld:Tryz.prog.cellsOf 4=1:=by kernel_rfl
theorem Sj:Tryz.prog.cellsOf 5=1:=by kernel_rfl
theorem Ol:Tryz.prog.globalNamed "tributary/item.heads"=some 1:=by kernel_rfl
theorem FZ:(Tryz.prog.globals[ 1 ]?).map (·.type)=some 306:=by kernel_rfl
theorem Ia:Tryz.prog.cellsOf 306=6:=by kernel_rfl
theorem KL:Tryz.prog.cellsOf 280=3:=by kernel_rfl
theorem UM {W:World} (h:laidMet Tryz.prog [("tributary/item.heads",Rows.laid_tributary_item_heads)] W):kU W:=by
 obtain ⟨ps,⟨g',t',cs,aa,p,q,R,Y,I,hd,_,_⟩,_⟩:=h
 obtain rfl:=eP (Ol.symm.trans R)
 obtain rfl:=eP (FZ.symm.trans Y)
 obtain ⟨xs,m,_,hx,z,J,hi⟩:=DataW.trod_array Tryz.underlying306 hd
 rw [Ia] at z
 have E:=λi=>World.var?_cell Ol I i
 obtain ⟨cs⟩:=cs
 match cs,z,xs,J with
 |[a0,a1,a2,a3,a4,a5],_,[x0,x1],_=>
 have h0:=hi 0 (by omega)
 have h1:=hi 1 (by omega)
 simp only [KL] at h0 h1
 simp only [Rows.laid_tributary_item_heads,dA,DataW.agg.injEq,dW,fG,List.cons.injEq,and_true] at hx
 obtain ⟨y0,y1,y2,n,hy,_,k0,k1,k2⟩:=Go.Deep.trod_struct3 Tryz.underlying280 h0
 obtain ⟨z0,z1,z2,n',hz,_,l0,l1,l2⟩:=Go.Deep.trod_struct3 Tryz.underlying280 h1
 simp only [Ld,Sj] at k0 k1 k2 l0 l1 l2
 obtain ⟨b0,e0,rfl⟩:=DataW.trod_bool Tryz.underlying4 k0
 obtain ⟨b1,e1,rfl,_⟩:=DataW.trod_int Tryz.underlying5 k1
 obtain ⟨b2,e2,rfl,_⟩:=DataW.trod_int Tryz.underlying5 k2
 obtain ⟨b3,e3,rfl⟩:=DataW.trod_bool Tryz.underlying4 l0
 obtain ⟨b4,e4,rfl,_⟩:=DataW.trod_int Tryz.underlying5 l1
 obtain ⟨b5,e5,rfl,_⟩:=DataW.trod_int Tryz.underlying5 l2
 simp at e0 e1 e2 e3 e4 e5
 subst e0 e1 e2 e3 e4 e5
 subst hy hz
 simp at hx
 obtain ⟨⟨⟨rfl,rfl,rfl⟩,rfl,rfl,rfl⟩,_⟩:=hx
 exact ⟨⟨E 0,E 1,E 2⟩,E 3,E 4,E 5⟩
end
end Go.Proofs.YtpibpdpedjinhaaGreatDoor
