import Derived.Test.YtpibpdpedjinhaaGreatDoorS34
import Derived.Test.YtpibpdpedjinhaaGreatDoorRows
import Derived.ProofKit
import Derived.OpenShut
import Derived.Deep.Slices
import Derived.Deep.Strs
import Derived.Deep.DeepHandedRow
import Derived.Lib.LaidTab
import Derived.ChangeOld
import Derived.Carry
import Derived.Conc.LeavingOf
import Derived.SevenTiedAt
set_option maxRecDepth 100000
set_option maxHeartbeats 8000000
set_option linter.unusedSimpArgs false
namespace Go.Proofs.YtpibpdpedjinhaaGreatDoor
namespace Dv
section
variable {l:List Lo}
structure mQ (c:Cf) (chain:List U) (x:Lo):Prop where
 at_:x.epoch<=x.at_
 id:x.id=(chain[x.epoch]!).id
 time:(chain[x.epoch]!).time<=x.time
 late:(chain[x.epoch]!).time+c.drift < x.time->x.txs=[]
 deps:x.deps=if x.seq=0 then jP (chain[x.epoch]!) else []
structure Next (c:Cf) (h x:Lo):Prop where
 number:x.number=h.number+1
 time:x.time=h.time+c.step
 at_:h.at_<=x.at_
 epoch:(x.epoch=h.epoch/\x.seq=h.seq+1)\/(x.epoch=h.epoch+1/\x.seq=0)
inductive Shaped (c:Cf) (chain:List U):List Lo->Prop
 |one:Shaped c chain [first (chain[0]!)]
 |snoc {l:List Lo} {h x:Lo}:Shaped c chain l->l.getLast? =some h->Next c h x->mQ c chain x->Shaped c chain (l++[x])
theorem ZC {c:Cf} {chain:List U} (hd:0<=c.drift):mQ c chain (first (chain[0]!)):=by
 refine ⟨jC,rfl,Int.le_refl _,λh=>?_,rfl⟩
 simp only [first] at h
 omega
section
variable {c:Cf} {chain:List U}
theorem Shaped.stands (hd:0<=c.drift) (h:Shaped c chain l):∀x,x∈l->mQ c chain x:=by
 induction h with
 |one=>intro x z;rw [dD.1 z];exact ZC hd
 |snoc h hl hn hs ih=>
  intro y q
  rcases dG.1 q with q|q
  ·exact ih y q
  ·simp at q;subst q;exact hs
theorem Shaped.ne (h:Shaped c chain l):l≠[]:=by
 cases h<;>simp
theorem Shaped.head (h:Shaped c chain l):l[0]? =some (first (chain[0]!)):=by
 induction h with
 |one=>rfl
 |snoc h hl hn hs ih=>rw [bP (by rcases gB _ with q|q;exact absurd (bD q) h.ne;exact q)];exact ih
theorem Shaped.next (h:Shaped c chain l):∀(i:Nat) (a x:Lo),l[i]? =some a->l[i+1]? =some x->Next c a x:=by
 induction h with
 |one=>intro i a x q h2;simp at h2
 |@snoc l h0 x0 h hl hn hs ih=>
  intro i a x q h2
  by_cases E:i+1 < l.length
  ·rw [bP (by omega)] at q h2
   exact ih i a x q h2
  ·have z:i+1=l.length:=by
    have:=(aF.1 h2).1
    simp at this
    omega
   rw [bK (by omega),show i+1 - l.length=0 from by omega] at h2
   simp at h2
   subst h2
   rw [bP (by omega)] at q
   rw [List.getLast?_eq_getElem?,show l.length - 1=i from by omega,q] at hl
   simp at hl
   subst hl
   exact hn
theorem Shaped.number (h:Shaped c chain l):∀(i:Nat) (x:Lo),l[i]? =some x->x.number=i
 |0,x,hx=>by
  rw [h.head] at hx
  simp at hx
  subst hx
  rfl
 |i+1,x,hx=>by
  have z:=(aF.1 hx).1
  have q:l[i]? =some (l[i]'(by omega)):=aG (by omega)
  have E:=h.next i _ x q hx
  have h2:=h.number i _ q
  rw [E.number,h2]
theorem aby (q:jQ c=true) {k:Nat} {h x:Lo} {wait r:List Ba} (Y:h.epoch<=k) (R:h.at_<=k) (ht:(chain[h.epoch]!).time<=h.time) (hd:draw c chain k h wait=(some x,r)):Next c h x/\mQ c chain x:=by
 unfold jQ at q
 simp only [decide_eq_true_eq] at q
 have key:∀(e:Nat) (txs:List (List UInt8)),(e=h.epoch\/e=h.epoch+1)->e<=k->(chain[e]!).time<=h.time+c.step->((chain[e]!).time+c.drift < h.time+c.step->txs=[])->Next c h (lay c chain k h e txs)/\mQ c chain (lay c chain k h e txs):=by
  intro e txs h1 h2 h3 h4
  unfold lay
  refine ⟨⟨rfl,rfl,R,?_⟩,⟨h2,rfl,h3,h4,?_⟩⟩
  ·simp only
   split
   ·exact .inl ⟨by assumption,rfl⟩
   ·exact .inr ⟨by omega,rfl⟩
  ·simp only
   split
   ·simp
   ·simp
 unfold draw at hd
 simp only at hd
 split at hd
 ·simp at hd
 ·rename_i b J
  simp only [dA,aC] at hd
  obtain ⟨rfl,rfl⟩:=hd
  obtain ⟨_,i2,i3,i4,_,I,i7,_⟩:=wI c chain k _ _ _ _ J
  unfold holds at I
  simp only [gV,iW,beq_eq_false_iff_ne,decide_eq_false_iff_not] at I
  unfold wrong at i7
  simp only [gV,iW,decide_eq_false_iff_not] at i7
  refine key b.epoch b.txs (by omega) (by omega) (by omega) (λz=>?_)
  rcases i7.2 with E|E
  ·exact absurd z E
  ·simpa using E.1
 ·split at hd
  ·simp at hd
  ·simp only [dA,aC] at hd
   obtain ⟨rfl,rfl⟩:=hd
   split
   ·exact key _ _ (.inr rfl) (by omega) (by assumption) (λ_=>rfl)
   ·exact key _ _ (.inl rfl) Y (by omega) (λ_=>rfl)
theorem YD (q:jQ c=true) {k:Nat}:∀(f:Nat) (l:List Lo) (h:Lo) (wait:List Ba),Shaped c chain l->l.getLast? =some h->h.epoch<=k->h.at_<=k->(chain[h.epoch]!).time<=h.time->Shaped c chain (l++(draws c chain k f h wait).1)
 |0,l,h,wait,hl,_,_,_,_=>by simpa [draws] using hl
 |f+1,l,h,wait,hl,hla,he,ha,ht=>by
  rw [draws]
  cases hd:draw c chain k h wait with
  |mk o r=>
   cases o with
   |none=>simpa using hl
   |some x=>
    obtain ⟨z,h2⟩:=aby q he ha ht hd
    have E:x.at_=k:=Ar (c:=c) (chain:=chain) (k:=k) 1 h wait x (by rw [draws,hd];simp)
    have:=YD q (k:=k) f (l++[x]) x r (Shaped.snoc hl hla z h2) (by simp) (by have:=h2.at_;omega) (by omega) h2.time
    simpa using this
theorem Zm (E:jS chain=true) (q:jQ c=true) {k:Nat} (hk:k < chain.length):∀(f:Nat) (h:Lo) (wait:List Ba),h.epoch<=k->left chain k h wait < f->(k:Int)<=(((h::(draws c chain k f h wait).1).getLastD default).epoch:Int)+c.window
 |0,_,_,_,h=>by omega
 |f+1,h,wait,he,hf=>by
  rw [draws]
  cases hd:draw c chain k h wait with
  |mk o r=>
   cases o with
   |some x=>
    have hs:=xA c chain k E q hk he hd
    unfold left at hf
    have:=Zm E q hk f x r (by omega) (by unfold left;omega)
    simpa using this
   |none=>
    simp only [List.getLastD_cons,List.getLastD_nil]
    unfold jQ at q
    simp only [decide_eq_true_eq] at q
    unfold draw at hd
    simp only at hd
    split at hd
    ·rename_i I
     have:∀l:List Ba,(sift c chain k h.epoch (h.time+c.step) l).1=.hold->k < h.epoch+1:=by
      intro l
      induction l with
      |nil=>intro h;simp [sift] at h
      |cons b l ih=>
       intro hs
       rw [sift] at hs
       split at hs
       ·exact ih hs
       ·split at hs
        ·exact ih hs
        ·split at hs
         ·rename_i z
          unfold holds at z
          simp only [iO,bY,decide_eq_true_eq] at z
          omega
         ·split at hs
          ·exact ih hs
          ·cases hs
     have:=this wait I
     omega
    ·simp at hd
    ·split at hd
     ·assumption
     ·simp at hd
theorem Y2 (hc:jS chain=true) (q:jQ c=true):∀k,k<=chain.length->Shaped c chain (gone c chain k).log
 |0,_=>Shaped.one
 |k+1,hk=>by
  have R:=Y2 hc q k (by omega)
  have J:=qR hc q k (by omega)
  have z:0<=c.drift:=by
   have:=q
   unfold jQ at this
   simp only [decide_eq_true_eq] at this
   omega
  rw [gone]
  unfold step
  simp only
  have Y:(gone c chain k).log.getLast? =some ((gone c chain k).log.getLastD default):=by
   rw [List.getLastD_eq_getLast?]
   cases hg:(gone c chain k).log.getLast? with
   |none=>exact absurd (List.getLast?_eq_none_iff.1 hg) J.some
   |some x=>rfl
  have I:=List.mem_of_getLast? Y
  have E:=R.stands z _ I
  have aa:=Oo c chain k _ I
  exact YD q _ _ _ _ R Y (by have:=J.epoch;omega) (by omega) E.time
theorem aco (E:jS chain=true) (q:jQ c=true) (k:Nat) (hk:k < chain.length):(k:Int)<=(((gone c chain (k+1)).log.getLastD default).epoch:Int)+c.window:=by
 have z:=qR E q k (by omega)
 rw [gone]
 unfold step
 simp only
 rw [lT _ _ z.some]
 exact Zm E q hk _ _ _ (by have:=z.epoch;omega) (by omega)
end
end
section
section
variable {c:Cf} {chain:List U}
theorem Shaped.time {l:List Lo} (h:Shaped c chain l):∀(i:Nat) (x:Lo),l[i]? =some x->x.time=(chain[0]!).time+c.step * (i:Int)/\x.seq<=i
 |0,x,hx=>by
  rw [h.head] at hx
  simp at hx
  subst hx
  simp [first]
 |i+1,x,hx=>by
  have E:=(aF.1 hx).1
  have q:l[i]? =some (l[i]'(by omega)):=aG (by omega)
  have z:=h.next i _ x q hx
  obtain ⟨h2,h3⟩:=h.time i _ q
  refine ⟨?_,?_⟩
  ·rw [z.time,h2,Int.natCast_add,Int.mul_add]
   simp
   omega
  ·rcases z.epoch with ⟨_,e⟩|⟨_,e⟩<;>omega
structure Seen (c:Cf) (chain:List U) (l:List Lo) (i:Nat) (x:Lo):Prop where
 number:x.number=i
 seq:x.seq<=i
 epoch:x.epoch<=x.at_
 at_:x.at_ < chain.length
 id:x.id=(chain[x.epoch]!).id
 time:(chain[x.epoch]!).time<=x.time
 late:(chain[x.epoch]!).time+c.drift < x.time->x.txs=[]
 deps0:0 < x.seq->x.deps=[]
 deps1:x.deps.length<=(chain[x.epoch]!).logs.length
 tlo:0<=x.time
 thi:x.time<=22000000000
theorem all_seen (R:jS chain=true) (z:jQ c=true):(all c chain).1=0/\(all c chain).2.length<=1091175902/\0 < (all c chain).2.length/\(∀i x,(all c chain).2[i]? =some x->Seen c chain (all c chain).2 i x)/\(∀i a x,(all c chain).2[i]? =some a->(all c chain).2[i+1]? =some x->Next c a x)/\(all c chain).2[0]? =some (first (chain[0]!))/\
  (∀x,(all c chain).2[(all c chain).2.length - 1]? =some x->((chain.length - 1:Nat):Int)<=(x.epoch:Int)+c.window):=by
 have e1:all c chain=(0,(gone c chain chain.length).log):=by unfold all;rw [if_neg (by simp [z]),if_neg (by simp [R])]
 have ae:=kJ R
 have q:=Y2 R z chain.length jC
 have aa:=qR R z chain.length jC
 have ac:=Ov R z ae.1 jC
 have I:2<=c.step/\c.step<=20/\0<=c.drift:=by
  simp only [jQ,decide_eq_true_eq] at z
  omega
 have Y:(gone c chain chain.length).log.length<=1091175902:=by
  have:=aa.much
  unfold much at this
  omega
 obtain ⟨r,_,_,J,_⟩:=ac
 rw [iG] at J
 rw [e1] at J⊢
 refine ⟨rfl,Y,by have:=q.ne;exact List.length_pos_iff.2 this,λi x E=>?_,λi a x ha E=>q.next i a x ha E,q.head,λx E=>?_⟩
 ·have hs:=q.stands I.2.2 x (aQ E)
  have ha:=J x (aQ E)
  obtain ⟨ht,hq⟩:=q.time i x E
  have hi:=(aF.1 E).1
  have hi:i < (gone c chain chain.length).log.length:=hi
  have hb:c.step * (i:Int)<=20 * (i:Int):=Int.mul_le_mul_of_nonneg_right I.2.1 (by omega)
  have af:0<=c.step * (i:Int):=Int.mul_nonneg (by omega) (by omega)
  refine ⟨q.number i x E,hq,hs.at_,ha,hs.id,hs.time,hs.late,λh0=>?_,?_,?_,?_⟩
  ·rw [hs.deps,if_neg (by omega)]
  ·rw [hs.deps]
   split
   ·exact gU _ _
   ·simp
  ·rw [ht];omega
  ·rw [ht];omega
 ·have he:=aco R z (chain.length - 1) (by omega)
  rw [show chain.length - 1+1=chain.length from by omega] at he
  have ab:(gone c chain chain.length).log.getLastD default=x:=by
   rw [List.getLastD_eq_getLast?,List.getLast?_eq_getElem?]
   have E:(gone c chain chain.length).log[(gone c chain chain.length).log.length - 1]? =some x:=E
   rw [E]
   rfl
  rw [ab] at he
  exact he
end
end
end Dv
namespace Hm
open Go.RowKit Go.Joins Go.Shelf
open Fr (below_drewN)
open Dv (U Cf Lo)
variable {w:World} {a:Addr} {v:Value}
theorem cell_lt (h:w.cell? a=some v):a.block < w.heap.size:=by
 unfold World.cell? at h
 rcases fQ a.block w.heap.size with q|q
 ·exact q
 ·rw [iR q] at h
  cases h
theorem Yn (h:w.cell? a=some v) (o:Obj):(w.alloc o).cell? a=some v:=by
 have q:=cell_lt h
 unfold World.cell? at h⊢
 rw [Go.RowKit.Below.heap_alloc _ _ _ q]
 exact h
theorem aaM (h:w.cell? a=some v) (o:Obj) (k:Nat) (o':Obj):(((w.alloc o).drewN k).alloc o').cell? a=some v:=Yn (w:=(w.alloc o).drewN k) (show (w.alloc o).cell? a=some v from Yn h o) o'
theorem aaU {B:Nat} {a:World} (h:Below B a w) (q:B<=w.heap.size) (o:Obj) (k:Nat):Below B a ((w.alloc o).drewN k):=below_drewN (h.alloc q o) k
theorem aaX (w:World) (o:Obj):w.heap.size<=(w.alloc o).heap.size:=by
 show w.heap.size<=(w.heap.push o).size
 simp
theorem below2 {B:Nat} {a:World} (h:Below B a w) (q:B<=w.heap.size) (o:Obj) (k:Nat) (o':Obj):Below B a (((w.alloc o).drewN k).alloc o'):=(aaU h q o k).alloc (aW q (aaX w o)) o'
theorem YW {c:Array Value} {t:TypeId} {j:Nat} (h:c[j]? =some v) (k:Nat) (o':Obj):(((w.alloc (.cells c t)).drewN k).alloc o').cell? ⟨w.heap.size,j,none⟩=some v:=Yn (w:=(w.alloc (.cells c t)).drewN k) (show (w.alloc (.cells c t)).cell? ⟨w.heap.size,j,none⟩=some v from (aA (heap_alloc_new _ _) _).trans h) o'
set_option pp.deepTerms true in
set_option pp.maxSteps 1000000 in
theorem acO {tm:Array Value} (c:Cf) (bc g off cap g2 o2 vc:Nat) (ps:List PU) (pl:List PL) (m n:Nat) (hs:tm.size=236) (t1:tm[1]? =some (.slice (some ⟨g2,o2,none⟩) m vc)) (t2:tm[2]? =some (.pointer (some ⟨bc,0,none⟩))) (t6:tm[6]? =some (.slice (some ⟨g,off,none⟩) n cap)) (hm:m=ps.length) (hn:n=pl.length) (w:World)
  (af:w.cell? ⟨bc,3,none⟩=some (.int .i64 c.window)) (ah:w.cell? ⟨bc,4,none⟩=some (.int .i64 c.drift)) (ag:w.cell? ⟨bc,5,none⟩=some (.int .i64 c.step)) (ab:bc < w.heap.size)
  (I:uQ w (.slice (some ⟨g,off,none⟩) n cap) pl) (ac:lN w (.slice (some ⟨g2,o2,none⟩) m vc) ps) (bv:0 < m) (ca:m<=60) (bw:0 < n) (cc:n<=1091175902)
  (z:∀i x,(pl.map Prod.fst)[i]? =some x->Dv.Seen c (ps.map Prod.fst) (pl.map Prod.fst) i x) (J:∀i a x,(pl.map Prod.fst)[i]? =some a->(pl.map Prod.fst)[i+1]? =some x->Dv.Next c a x) (R:∀x,(pl.map Prod.fst)[(pl.map Prod.fst).length - 1]? =some x->(((ps.map Prod.fst).length - 1:Nat):Int)<=(x.epoch:Int)+c.window)
  (aa:∀i,i < m->0<=((ps.map Prod.fst)[i]!).time/\((ps.map Prod.fst)[i]!).time<=1001440) (ap:0<=c.drift/\c.drift<=100) (bp:2<=c.step/\c.step<=20) (bl:1<=c.window/\c.window<=8) {Q:Exit->Act->World->Prop}
  (hQ:∀(tm:Array Value) (W:World),tm[4]? =some (.bool true)->Below w.heap.size w W->Q .ret { tmps:=tm,defers:=[] } W):uG.wp PQ Q { tmps:=tm,defers:=[] } w:=by
 obtain ⟨l,rfl⟩:∃l:List Value,tm=l.toArray:=⟨tm.toList,by simp⟩
 replace hs:l.length=236:=by simpa using hs
 iterate 236 (obtain ⟨_,l,rfl,h⟩:=aa0 hs;clear hs;have hs:=h;clear h)
 obtain rfl:=List.length_eq_zero_iff.1 hs
 clear hs
 simp only [dY,dX,dQ,aC] at t1 t2 t6
 subst t1 t2 t6
 as_aux_lemma=>
  have H:Hid _:=jB I (jB ac (jB z (jB J (jB R (jB aa (jB hm hn))))))
  have HB:Hid _:=jB af (jB ah (jB ag ab))
  have HQ:Hid _:=hQ
  have bq:=I.1
  clear I ac z J R aa hm hn af ah ag ab hQ bq
  simp only [uG,Tryz.f6]
  go_wp2_with fail
  go_loopg [8] n (λgg t wr=>∃i:Nat,i<=n/\t=.int .i64 i/\gg=n - i/\Hid (Below w.heap.size w wr))
  case atStart=>exact ⟨0,dF _,rfl,rfl,aB _ _⟩
  case round=>
   obtain ⟨i,hi,rfl,rfl,HI⟩:=hrel
   obtain ⟨I,ac,z,J,R,aa,hm,hn⟩:=H.out
   by_cases bs:i < n
   ·have bb:(i:Int) < (n:Int):=by omega
    obtain ⟨p,hp⟩:∃x,pl[i]? =some x:=⟨_,aG (by omega)⟩
    have aq:(pl.map Prod.fst)[i]? =some p.1:=by rw [eX,hp];rfl
    have S:=z i _ aq
    have ax:p.1.epoch < m:=by have:=S.epoch;have:=S.at_;rw [aU] at this;omega
    obtain ⟨q,hq⟩:∃x,ps[p.1.epoch]? =some x:=⟨_,aG (by omega)⟩
    have am:((ps.map Prod.fst)[p.1.epoch]!)=q.1:=by
     rw [getElem!_def,eX,hq];rfl
    have kc:=(I.below HI.out).cells hp
    have k0:=kc 0 _ rfl
    have k1:=kc 1 _ rfl
    have k2:=kc 2 _ rfl
    have k3:=kc 3 _ rfl
    have k4:=kc 4 _ rfl
    have k5:=kc 5 _ rfl
    have k6:=kc 6 _ rfl
    have k7:=kc 7 _ rfl
    have ai:=ac.below HI.out
    rw [hm] at ai
    obtain ⟨d0,d1,d2,d3⟩:=ai.get hq
    obtain ⟨sa,sc,a0⟩:=(I.2 p (aQ hp)).1.slice
    obtain ⟨da,dc,a8⟩:=(I.2 p (aQ hp)).2.1.slice
    obtain ⟨la,lc,a7⟩:=(ac.2 q (aQ hq)).2.1.slice
    obtain ⟨af,ah,ag,ab⟩:=HB.out
    have c4:wr.cell? ⟨bc,4,none⟩=some (.int .i64 c.drift):=(HI.out.cell (p:=⟨bc,4,none⟩) ab).trans ah
    have c5:wr.cell? ⟨bc,5,none⟩=some (.int .i64 c.step):=(HI.out.cell (p:=⟨bc,5,none⟩) ab).trans ag
    have aa:=aa _ ax
    rw [am] at aa
    have ar:=aa
    obtain ⟨⟨N0,Y,E,ID,SQ,TX,DP,AT⟩,vt,vd⟩:=p
    obtain ⟨⟨aj,qt,bx,ql⟩,b0,bz⟩:=q
    dsimp only at a0 a8 a7 ar ax d0 d1 d3 am
    obtain ⟨s1,s2,s3,s4,s5,s6,s7,s8,s9,s10,bj⟩:=S
    dsimp only at s1 s2 s3 s4 s5 s6 s7 s8 s9 s10 bj
    rw [am] at s5 s6 s7 s9
    dsimp only at s5 s6 s7 s9
    have s1:=s1.symm
    have s5:=s5.symm
    subst s1 s5 a0 a8 a7
    rw [aU] at s4
    obtain ⟨nt,au⟩:∃k,TX.length=k:=⟨_,rfl⟩
    obtain ⟨nd,an⟩:∃k,DP.length=k:=⟨_,rfl⟩
    obtain ⟨nl,av⟩:∃k,ql.length=k:=⟨_,rfl⟩
    rw [an,av] at s9
    rw [av] at d3
    have s7:qt+c.drift < Y->nt=0:=λh=>by rw [<-au,s7 h];rfl
    have s8:0 < SQ->nd=0:=λh=>by rw [<-an,s8 h];rfl
    obtain ⟨DR,ay⟩:∃k,c.drift=k:=⟨_,rfl⟩
    obtain ⟨ST,ao⟩:∃k,c.step=k:=⟨_,rfl⟩
    rw [ay] at c4 ap s7
    rw [ao] at c5 bp
    have k0:wr.cell? ⟨g,off+i * 8,none⟩=some (.int .i64 (i:Int)):=k0
    have k1:wr.cell? ⟨g,off+i * 8+1,none⟩=some (.int .i64 Y):=k1
    have k2:wr.cell? ⟨g,off+i * 8+2,none⟩=some (.int .i64 (E:Int)):=k2
    have k3:wr.cell? ⟨g,off+i * 8+3,none⟩=some (.int .i64 aj):=k3
    have k4:wr.cell? ⟨g,off+i * 8+4,none⟩=some (.int .i64 (SQ:Int)):=k4
    have k5:wr.cell? ⟨g,off+i * 8+5,none⟩=some (.slice sa nt sc):=by rw [<-au];exact k5
    have k6:wr.cell? ⟨g,off+i * 8+6,none⟩=some (.slice da nd dc):=by rw [<-an];exact k6
    have k7:wr.cell? ⟨g,off+i * 8+7,none⟩=some (.int .i64 (AT:Int)):=k7
    have D0:=Yn d0
    have D1:=Yn d1
    have D3:=Yn d3
    have C4:=Yn c4
    have C5:=Yn c5
    have f1:¬(E:Int) < 0:=by omega
    have f2:¬(AT:Int) < (E:Int):=by omega
    have f3:¬(m:Int)<=(AT:Int):=by omega
    have f4:¬Y < qt:=by omega
    have f5:(E:Int) < (m:Int):=by omega
    have f6:E < m:=by omega
    have g1:¬AT < E:=by omega
    have bk:¬m<=AT:=by omega
    have b1:decide ((E:Int) < 0)=false:=decide_eq_false f1
    have b2:decide (AT < E)=false:=decide_eq_false g1
    have b3:decide (m<=AT)=false:=decide_eq_false bk
    have b4:decide (Y < qt)=false:=decide_eq_false f4
    have hB:w.heap.size<=wr.heap.size:=HI.out.size
    have HW:Hid (¬i=0->∃(WN WE WS WA WX WD:Nat) (WT WI:Int) (xa:Option Addr) (xc:Nat) (ya:Option Addr) (yc:Nat),(wr.cell? ⟨g,off+(i - 1) * 8,none⟩=some (.int .i64 (WN:Int))/\wr.cell? ⟨g,off+(i - 1) * 8+1,none⟩=some (.int .i64 WT)/\wr.cell? ⟨g,off+(i - 1) * 8+2,none⟩=some (.int .i64 (WE:Int))/\wr.cell? ⟨g,off+(i - 1) * 8+3,none⟩=some (.int .i64 WI)/\wr.cell? ⟨g,off+(i - 1) * 8+4,none⟩=some (.int .i64 (WS:Int))/\wr.cell? ⟨g,off+(i - 1) * 8+5,none⟩=some (.slice xa WX xc)/\wr.cell? ⟨g,off+(i - 1) * 8+6,none⟩=some (.slice ya WD yc)/\wr.cell? ⟨g,off+(i - 1) * 8+7,none⟩=some (.int .i64 (WA:Int)))/\Y=WT+ST/\0<=WT/\WT<=22000000000/\WA<=AT/\WS<=i/\WE < m/\((E=WE/\SQ=WS+1)\/(E=WE+1/\SQ=0))):=λhI=>by
     obtain ⟨v,hv⟩:∃x,pl[i - 1]? =some x:=⟨_,aG (by omega)⟩
     have ak:(pl.map Prod.fst)[i - 1]? =some v.1:=by rw [eX,hv];rfl
     have S':=z _ _ ak
     have N':=J (i - 1) _ _ ak (by rw [show i - 1+1=i from by omega];exact aq)
     have wc:=(I.below HI.out).cells hv
     obtain ⟨xa,xc,bo⟩:=(I.2 v (aQ hv)).1.slice
     obtain ⟨ya,yc,bh⟩:=(I.2 v (aQ hv)).2.1.slice
     have a1:=S'.epoch
     have a2:=S'.at_
     rw [aU] at a2
     have a3:=S'.seq
     have a4:=S'.tlo
     have a5:=S'.thi
     have n1:=N'.time
     have n2:=N'.at_
     have n3:=N'.epoch
     dsimp only at n1 n2 n3
     refine ⟨v.1.number,v.1.epoch,v.1.seq,v.1.at_,v.1.txs.length,v.1.deps.length,v.1.time,v.1.id,xa,xc,ya,yc,⟨wc 0 _ rfl,wc 1 _ rfl,wc 2 _ rfl,wc 3 _ rfl,wc 4 _ rfl,?_,?_,wc 7 _ rfl⟩,?_,a4,a5,n2,by omega,by omega,n3⟩
     ·rw [<-bo];exact wc 5 _ rfl
     ·rw [<-bh];exact wc 6 _ rfl
     ·rw [<-ao];exact n1
    have ba:∀k o',(((wr.alloc (.cells #[.int .i64 (i:Int),.int .i64 Y,.int .i64 (E:Int),.int .i64 aj,.int .i64 (SQ:Int),.slice sa nt sc,.slice da nd dc,.int .i64 (AT:Int)] 62)).drewN k).alloc o').cell? ⟨wr.heap.size,1,none⟩=some (.int .i64 Y):=λk o'=>YW rfl k o'
    have aw:∀k o',(((wr.alloc (.cells #[.int .i64 (i:Int),.int .i64 Y,.int .i64 (E:Int),.int .i64 aj,.int .i64 (SQ:Int),.slice sa nt sc,.slice da nd dc,.int .i64 (AT:Int)] 62)).drewN k).alloc o').cell? ⟨wr.heap.size,2,none⟩=some (.int .i64 (E:Int)):=λk o'=>YW rfl k o'
    have az:∀k o',(((wr.alloc (.cells #[.int .i64 (i:Int),.int .i64 Y,.int .i64 (E:Int),.int .i64 aj,.int .i64 (SQ:Int),.slice sa nt sc,.slice da nd dc,.int .i64 (AT:Int)] 62)).drewN k).alloc o').cell? ⟨wr.heap.size,4,none⟩=some (.int .i64 (SQ:Int)):=λk o'=>YW rfl k o'
    have bd:∀k o',(((wr.alloc (.cells #[.int .i64 (i:Int),.int .i64 Y,.int .i64 (E:Int),.int .i64 aj,.int .i64 (SQ:Int),.slice sa nt sc,.slice da nd dc,.int .i64 (AT:Int)] 62)).drewN k).alloc o').cell? ⟨wr.heap.size,7,none⟩=some (.int .i64 (AT:Int)):=λk o'=>YW rfl k o'
    have bg:=λo k o'=>aaM c5 o k o'
    clear I ac z J R aa au an av hp aq ai hq am kc hm hn d2 ay ao
    have l0:0<=qt:=ar.1
    have l1:qt<=1001440:=ar.2
    have l2:0<=DR:=ap.1
    have l3:DR<=100:=ap.2
    go_wp2_with fail
    go_quiet (fail)
    go_wp2_with fail
    have b5:(qt+DR < Y/\decide (qt+DR < Y)=true/\nt=0)\/(¬qt+DR < Y/\decide (qt+DR < Y)=false):=by
     by_cases hL:qt+DR < Y
     ·exact .inl ⟨hL,decide_eq_true hL,s7 hL⟩
     ·exact .inr ⟨hL,decide_eq_false hL⟩
    rcases b5 with ⟨hL,b5,rfl⟩|⟨hL,b5⟩
    all_goals
     by_cases hS:0 < SQ
     ·have bn:=s8 hS
      subst bn
      have b6:decide (0 < SQ)=true:=decide_eq_true hS
      have cb:decide ((0:Int) < (SQ:Int))=true:=decide_eq_true (by omega)
      have b7:((SQ:Int) == 0)=false:=by simp;omega
      go_quiet (fail)
      go_wp2_with fail
      go_quiet (fail)
      by_cases hI:i=0
      ·have b8:((i:Int) == 0)=true:=by simp;omega
       clear ba aw az bd bg
       go_wp2_with fail
       go_roundg (n - (i+1))
       case measure=>omega
       case rel=>exact ⟨i+1,by omega,by go_num,rfl,aaU HI.out hB _ _⟩
      ·have b8:((i:Int) == 0)=false:=by simp;omega
       obtain ⟨WN,WE,WS,WA,WX,WD,WT,WI,xa,xc,ya,yc,⟨w0,w1,w2,w3,w4,w5,w6,w7⟩,y1,y2,y3,y4,y5,y6,y7⟩:=HW.out hI
       have V0:=Yn w0
       have V1:=Yn w1
       have V2:=Yn w2
       have V3:=Yn w3
       have V4:=Yn w4
       have V5:=Yn w5
       have V6:=Yn w6
       have V7:=Yn w7
       have z0:decide (AT < WA)=false:=decide_eq_false (by omega)
       have z4:(Y == WT+ST)=true:=by simp;omega
       have z5:(Y != WT+ST)=false:=by simp;omega
       obtain ⟨rfl,bu⟩:E=WE/\SQ=WS+1:=by
        rcases y7 with h|h
        ·exact h
        ·omega
       have z1:((SQ:Int) == (WS:Int)+1)=true:=by simp;omega
       have z2:((E:Int) == (E:Int)+1)=false:=beq_false_of_ne (by omega)
       have z3:((E:Int) == (E:Int))=true:=by simp
       clear y1 y7
       go_wp2_with fail
       go_roundg (n - (i+1))
       case measure=>omega
       case rel=>exact ⟨i+1,by omega,by go_num,rfl,below2 HI.out hB _ _ _⟩
     ·obtain rfl:SQ=0:=by omega
      have b9:decide (nl < nd)=false:=decide_eq_false (by omega)
      go_quiet (fail)
      go_wp2_with fail
      go_quiet (fail)
      by_cases hI:i=0
      ·have b8:((i:Int) == 0)=true:=by simp;omega
       clear ba aw az bd bg
       go_wp2_with fail
       go_roundg (n - (i+1))
       case measure=>omega
       case rel=>exact ⟨i+1,by omega,by go_num,rfl,aaU HI.out hB _ _⟩
      ·have b8:((i:Int) == 0)=false:=by simp;omega
       obtain ⟨WN,WE,WS,WA,WX,WD,WT,WI,xa,xc,ya,yc,⟨w0,w1,w2,w3,w4,w5,w6,w7⟩,y1,y2,y3,y4,y5,y6,y7⟩:=HW.out hI
       have V0:=Yn w0
       have V1:=Yn w1
       have V2:=Yn w2
       have V3:=Yn w3
       have V4:=Yn w4
       have V5:=Yn w5
       have V6:=Yn w6
       have V7:=Yn w7
       have z0:decide (AT < WA)=false:=decide_eq_false (by omega)
       have z4:(Y == WT+ST)=true:=by simp;omega
       have z5:(Y != WT+ST)=false:=by simp;omega
       obtain br:E=WE+1:=by
        rcases y7 with h|h
        ·omega
        ·exact h.1
       have z1:((E:Int) == (WE:Int)+1)=true:=by simp;omega
       have z2:((E:Int) == (WE:Int))=false:=by simp;omega
       clear y1 y7
       go_wp2_with fail
       go_roundg (n - (i+1))
       case measure=>omega
       case rel=>exact ⟨i+1,by omega,by go_num,rfl,below2 HI.out hB _ _ _⟩
   ·have bb:¬(i:Int) < (n:Int):=by omega
    obtain ⟨v,hv⟩:∃x,pl[n - 1]? =some x:=⟨_,aG (by omega)⟩
    have ak:(pl.map Prod.fst)[(pl.map Prod.fst).length - 1]? =some v.1:=by rw [aU,<-hn,eX,hv];rfl
    have ae:=R _ ak
    have S':=z (n - 1) _ (by rw [eX,hv];rfl)
    have a1:=S'.epoch
    have a2:=S'.at_
    rw [aU] at a2 ae
    have wc:=(I.below HI.out).cells hv
    have w2:=wc 2 _ rfl
    obtain ⟨af,ah,ag,ab⟩:=HB.out
    have c3:wr.cell? ⟨bc,3,none⟩=some (.int .i64 c.window):=(HI.out.cell (p:=⟨bc,3,none⟩) ab).trans af
    obtain ⟨LE,a6⟩:∃k,v.1.epoch=k:=⟨_,rfl⟩
    rw [a6] at w2 ae a1
    have w2:wr.cell? ⟨g,off+(n - 1) * 8+2,none⟩=some (.int .i64 (LE:Int)):=w2
    obtain ⟨WI,a9⟩:∃k,c.window=k:=⟨_,rfl⟩
    rw [a9] at c3 ae bl
    have x1:(m:Int) - 1<=(LE:Int)+WI:=by omega
    have x2:decide ((m:Int) - 1<=(LE:Int)+WI)=true:=decide_eq_true x1
    have x3:LE < m:=by omega
    have bm:=HI.out
    clear I ac z J R aa hm hn hv ak ae S' a1 a2 wc af ah ag a6 a9
    go_wp2_with fail
    go_quiet (fail)
    go_wp2_with fail
    refine HQ.out _ _ ?_ (below_drewN bm _)
    rfl
end Hm
namespace Pa
open Go Go.Conc Go.RowKit Go.Joins
open Hm (ptr jI kF oG lN PU ku kM acn abl ab6 abN abD abI uG uQ)
open Dv (U Cf)
open Po hiding U H B IT PR NB
section
noncomputable def ach:Array Oper:=match abl with
 |.region _ ops _=>ops
 |_=>#[]
theorem acz:∃q,abl=.region q ach false:=⟨_,rfl⟩
theorem aaK:List.range ach.size=[0,1]:=by kernel_rfl
noncomputable def abO:Array Oper:=match abN with
 |.region _ ops _=>ops
 |_=>#[]
theorem acA:∃q,abN=.region q abO false:=⟨_,rfl⟩
theorem aaF:List.range abO.size=[0,1,2,3,4,5,6,7]:=by kernel_rfl
section
variable {Post:Eh} {D:Nat->Prop} {w:World} {c:Cf} {ps:List PU} {xa:Option Addr} {vc:Nat}
theorem ab4 (rd:Cr.ReadW) (bj:Tryz.prog.globals.size<=w.heap.size) (J:lN w (.slice xa ps.length vc) ps) (ax:ps.length<=4294967296) (hH:pV w)
  (am:∀D' w' y,kF (λ_=>False) w w'->WP (qe Tryz.prog.funcs D') w' y->Keep (qe Tryz.prog.funcs D') Post y->Post.post (.bool true) y):
  Wq D Post [] ((base 6).at { tmps:=#[.agg (jI c),.slice xa ps.length vc]++Array.replicate 234 undef,defers:=[] } [.code (.seq acn (.seq abl (.seq ab6 (.seq abN (.seq abD (.seq abI uG))))))]) [] w:=by
 simp only [cO,bZ,dN,cZ,dM,dH]
 have fin:∀(D':Nat->Prop) (a':Act) (w':World) (todo:List Item),a'.tmps[4]? =some (.bool true)->a'.defers=[]->kF (λ_=>False) w w'->Wq D' Post [] { (base 6).at a' todo with mode:=.returning } [] w':=λD' a' w' todo h6 hd hc=>
  Wq.last (v:=.bool true) (fn:=Tryz.f6) rfl hd rfl Tryz.func6 (by kernel_rfl) (λw=>by
   have:a'.tmps[4]? =_:=h6
   simp [results,Tryz.results6,go_sem,Frame.at,this]) (λw=>by simp [results,Tryz.results6,go_sem]) (am D' w' · hc)
 obtain ⟨w1,ai⟩:∃w1,w1=w.alloc (.cells (jI c) 24):=⟨_,rfl⟩
 have an:kF (λ_=>False) w w1:=um (by rw [ai])
 have a0:w1.heap[w.heap.size]? =some (.cells (jI c) 24 (0,0)):=by rw [ai];exact heap_alloc_new _ _
 have cf:∀{v:World},kF (λ_=>False) w1 v->v.heap[w.heap.size]? =some (.cells (jI c) 24 (0,0)):=λh=>(h.block _ (jE a0) (λe=>e)).trans a0
 refine Wq.seq (Wq.walk λt d Q hN _=>?_)
 have HN:Hid _:=hN
 clear hN
 simp only [acn,Tryz.f6,jI]
 go_wp2_with fail
 refine HN.out _ _ (Wq.same (y:=w1) (λ_ _=>by rw [ai];rfl) (Wq.seq ?_))
 clear HN
 rw [show (on w t d).heap.size=w.heap.size from rfl]
 have s1:=an.size
 obtain ⟨r1,a3⟩:=acz
 rw [a3]
 refine Wq.region ?_
 rw [aaK]
 obtain ⟨y0,a1,bh,bb,a4⟩:∃o,ach[0]? =some o/\o.op=.call { callee:=.value (.func 21),args:=#[],argTypes:=#[] }/\o.dst=some 13/\o.guard=none:=⟨_,rfl,rfl,rfl,rfl⟩
 refine UG rd a1 (Cr.kG a4) bh (by omega) (hH.kept an) λD2 w2 aj=>?_
 rw [bb]
 have ab:=an.trans aj (λ_ _ e=>e)
 have a7:=cf aj
 have s2:=ab.size
 simp only [Act.put,bH,dJ,dI]
 refine Wq.zF (.assign (.tmp 13)) (some 5) (.bool true) w2 rfl (λt d o h=>by unfold execOp;simp only [h];rfl) (Wq.done ?_)
 simp only [Act.put,bH,dJ,dI]
 refine Wq.seq (Wq.walk λt d Q hN _=>?_)
 have HN:Hid _:=hN
 clear hN
 simp only [ab6,Tryz.f6]
 go_wp2_with fail
 refine HN.out _ _ (Wq.same (y:=w2) (λ_ _=>rfl) (Wq.seq ?_))
 clear HN
 obtain ⟨r4,bd⟩:=acA
 rw [bd]
 refine Wq.region ?_
 rw [aaF]
 refine Wq.zF (.load 24 (.tmp 2)) (some 17) (.agg (jI c)) w2 rfl (λt d o h=>by
  have c:=su (w:=on w2 t d) a7
  have k0:=c 0
  have k1:=c 1
  have k2:=c 2
  have k3:=c 3
  have k4:=c 4
  have k5:=c 5
  have k6:=c 6
  unfold execOp
  simp only [h]
  simp [go_sem,Act.eval,k0,k1,k2,k3,k4,k5,k6,jI]) ?_
 simp only [Act.put,bH,dJ,dI]
 refine Wq.zF (.move (.tmp 1)) (some 18) (.slice xa ps.length vc) w2 rfl (λt d o h=>by unfold execOp;simp only [h];rfl) ?_
 simp only [Act.put,bH,dJ,dI]
 obtain ⟨y2,a8,ba,a9,bg⟩:∃o,abO[2]? =some o/\o.op=.call { callee:=.value (.func 12),args:=#[.tmp 17,.tmp 18],argTypes:=#[24,25] }/\o.dst=some 19/\o.guard=none:=⟨_,rfl,rfl,rfl,rfl⟩
 refine Kr rd (c:=c) (ps:=ps) a8 (Cr.kG bg) ba rfl rfl (by omega) (rW J ab) ax (hH.kept ab) λD4 w4 va pl E aa z au=>?_
 rw [a9]
 have R:=ab.trans au (λ_ _ e=>e)
 have s4:=R.size
 obtain ⟨e,he⟩:∃e,e=(Dv.all c (ps.map Prod.fst)).1:=⟨_,rfl⟩
 rw [<-he]
 simp only [Act.put,bH,dJ,dI]
 refine Wq.zF (.move (.tmp 19)) (some 16) (.tuple #[va,.int .i64 e]) w4 rfl (λt d o h=>by unfold execOp;simp only [h];rfl) ?_
 simp only [Act.put,bH,dJ,dI]
 refine Wq.zF (.extract (.tmp 16) 0) (some 20) va w4 rfl (λt d o h=>by unfold execOp;simp only [h];rfl) ?_
 simp only [Act.put,bH,dJ,dI]
 refine Wq.zF (.extract (.tmp 16) 1) (some 21) (.int .i64 e) w4 rfl (λt d o h=>by unfold execOp;simp only [h];rfl) ?_
 simp only [Act.put,bH,dJ,dI]
 refine Wq.zF (.assign (.tmp 20)) (some 6) va w4 rfl (λt d o h=>by unfold execOp;simp only [h];rfl) ?_
 simp only [Act.put,bH,dJ,dI]
 refine Wq.zF (.assign (.tmp 21)) (some 7) (.int .i64 e) w4 rfl (λt d o h=>by unfold execOp;simp only [h];rfl) (Wq.done ?_)
 simp only [Act.put,bH,dJ,dI]
 refine Wq.seq ?_
 by_cases aq:Dv.jQ c=true/\Dv.jS (ps.map Prod.fst)=true
 ·obtain ⟨q,I⟩:=aq
  obtain rfl:e=0:=he.trans (Dv.all_seen I q).1
  have HL:Hid _:=jB z (jB I (jB q (jB J (jB E aa))))
  clear he z I q J E aa
  refine Wq.walk λt d Q hN _=>?_
  have HN:Hid _:=hN
  clear hN
  simp only [abD,Tryz.f6]
  go_wp2_with fail
  refine HN.out _ _ (Wq.same (y:=w4) (λ_ _=>rfl) (Wq.seq ?_))
  clear HN
  obtain ⟨z,I,q,J,E,aa⟩:=HL.out
  obtain ⟨q0,q1,q2,ac,ae,Y,ag⟩:=Dv.all_seen I q
  have ap:1<=ps.length/\ps.length<=60:=by
   have:=Dv.kJ I
   rw [aU] at this
   exact ⟨this.1,this.2.1⟩
  rw [<-z] at q1 q2 ac ae Y ag
  rw [aU] at q1 q2
  have lo:=Nh E aa
  have up:=rW J R
  obtain ⟨g,off,cap,rfl,_,_,_⟩:=lo.1.pos q2
  obtain ⟨g2,o2,bk,ev,_,_,_⟩:=up.1.pos (by omega)
  simp only [Value.slice.injEq] at ev
  obtain ⟨rfl,_,rfl⟩:=ev
  obtain ⟨p0,af⟩:∃x,pl[0]? =some x:=⟨_,aG q2⟩
  obtain ⟨u0,av⟩:∃x,ps[0]? =some x:=⟨_,aG (by omega)⟩
  have az:p0.1=Dv.first u0.1:=by
   rw [eX,af] at Y
   simpa [getElem!_def,av] using Y
  have kc:∀j u,(ku p0)[j]? =some u->w4.cell? ⟨g,off+j,none⟩=some u:=λj u h=>by
   have:=lo.cells af j u h
   rwa [show 0 * 8+j=j by omega] at this
  have kd:w4.cell? ⟨g2,o2+1,none⟩=some (.int .i64 u0.1.time):=by
   have:=(up.get av).2.1
   rwa [show o2+0 * 4+1=o2+1 by omega] at this
  obtain ⟨sa,sc,ar⟩:=(lo.2 p0 (aQ af)).1.slice
  obtain ⟨x0,vt,vd⟩:=p0
  dsimp only at az ar
  subst az
  have ao:=cf (aj.trans au (λ_ _ e=>e))
  have ak:=su (w:=w4) ao
  have a6:=(jE ao)
  refine Wq.walk λt d Q hN _=>Hm.acC g off pl.length cap g2 o2 ps.length vc u0.1.time sa sc rfl rfl rfl rfl q2 (F5 E) (by omega) ax (on w4 t d) (kc 0 _ rfl) (kc 1 _ rfl) (kc 2 _ rfl) (kc 4 _ rfl) ((kc 5 _ rfl).trans (by rw [ar];rfl)) kd (λtm k z0 z1 z2 z3=>hN _ _ (Wq.same (y:=w4) (λ_ _=>rfl) ?_))
  have ah:(0<=c.drift/\c.drift<=100)/\(2<=c.step/\c.step<=20)/\1<=c.window/\c.window<=8:=by
   simp only [Dv.jQ,decide_eq_true_eq] at q
   omega
  exact Wq.walk λt d Q _ hR=>Hm.acO c w.heap.size g off cap g2 o2 vc ps pl ps.length pl.length z0 z1 z2 z3 rfl rfl (on w4 t d) (ak 3) (ak 4) (ak 5) a6 (Nk lo (Yq rfl)) (rW up (Yq rfl)) (by omega) ap.2 q2 q1 ac ae ag (λi hi=>Dv.PK I (by rw [aU];exact hi)) ah.1 ah.2.1 ah.2.2 (λtm w8 h6 a5=>hR _ _ λtodo=>fin D4 _ w8 todo h6 rfl
   (R.trans (((Hm.jL.below a5 jC (λ_=>False)).h).heaps rfl rfl) (λ_ _ e=>e)))
 ·have ay:∃e,(e=1\/e=2)/\Dv.all c (ps.map Prod.fst)=(e,[]):=by
   unfold Dv.all
   by_cases q:Dv.jQ c=false
   ·exact ⟨1,.inl rfl,by rw [if_pos q]⟩
   ·have I:Dv.jS (ps.map Prod.fst)=false:=by
     cases h:Dv.jS (ps.map Prod.fst) with
     |false=>rfl
     |true=>exact absurd ⟨by simpa using q,h⟩ aq
    exact ⟨2,.inr rfl,by rw [if_neg q,if_pos I]⟩
  obtain ⟨e',a2,aw⟩:=ay
  rw [aw] at he z
  obtain rfl:pl=[]:=by simpa using z
  obtain ⟨ya,yc,rfl⟩:=E.slice
  refine Wq.walk λt d Q _ hR=>?_
  have HR:Hid _:=hR
  clear hR
  simp only [abD,Tryz.f6]
  obtain rfl:e=e':=he
  rcases a2 with rfl|rfl
  ·go_wp2_with fail
   exact HR.out _ _ λtodo=>fin D4 _ _ todo rfl rfl (R.heaps rfl rfl)
  ·go_wp2_with fail
   exact HR.out _ _ λtodo=>fin D4 _ _ todo rfl rfl (R.heaps rfl rfl)
end
end
end Pa
section
open Go.ChangeShapes Go.WideShapes Go.ChangeAt Go.RowKit
theorem Ld:Tryz.prog.cellsOf 4=1:=by kernel_rfl
theorem Sj:Tryz.prog.cellsOf 5=1:=by kernel_rfl
theorem Ol:Tryz.prog.globalNamed "tributary/item.heads"=some 1:=by kernel_rfl
theorem FZ:(Tryz.prog.globals[ 1 ]?).map (·.type)=some 306:=by kernel_rfl
theorem Ia:Tryz.prog.cellsOf 306=6:=by kernel_rfl
theorem KL:Tryz.prog.cellsOf 280=3:=by kernel_rfl
theorem UM {W:World} (h:laidMet Tryz.prog [("tributary/item.heads",Rows.laid_tributary_item_heads)] W):kU W:=by
 obtain ⟨ps,⟨g',t',cs,aa,p,q,R,Y,I,hd,_,_⟩,_⟩:=h
 obtain rfl:=eP (Ol.symm.trans R)
 obtain rfl:=eP (FZ.symm.trans Y)
 obtain ⟨xs,m,_,hx,z,J,hi⟩:=DataW.trod_array Tryz.underlying306 hd
 rw [Ia] at z
 have E:=λi=>World.var?_cell Ol I i
 obtain ⟨cs⟩:=cs
 match cs,z,xs,J with
 |[a0,a1,a2,a3,a4,a5],_,[x0,x1],_=>
 have h0:=hi 0 (by omega)
 have h1:=hi 1 (by omega)
 simp only [KL] at h0 h1
 simp only [Rows.laid_tributary_item_heads,dA,DataW.agg.injEq,dW,fG,List.cons.injEq,and_true] at hx
 obtain ⟨y0,y1,y2,n,hy,_,k0,k1,k2⟩:=Go.Deep.trod_struct3 Tryz.underlying280 h0
 obtain ⟨z0,z1,z2,n',hz,_,l0,l1,l2⟩:=Go.Deep.trod_struct3 Tryz.underlying280 h1
 simp only [Ld,Sj] at k0 k1 k2 l0 l1 l2
 obtain ⟨b0,e0,rfl⟩:=DataW.trod_bool Tryz.underlying4 k0
 obtain ⟨b1,e1,rfl,_⟩:=DataW.trod_int Tryz.underlying5 k1
 obtain ⟨b2,e2,rfl,_⟩:=DataW.trod_int Tryz.underlying5 k2
 obtain ⟨b3,e3,rfl⟩:=DataW.trod_bool Tryz.underlying4 l0
 obtain ⟨b4,e4,rfl,_⟩:=DataW.trod_int Tryz.underlying5 l1
 obtain ⟨b5,e5,rfl,_⟩:=DataW.trod_int Tryz.underlying5 l2
 simp at e0 e1 e2 e3 e4 e5
 subst e0 e1 e2 e3 e4 e5
 subst hy hz
 simp at hx
 obtain ⟨⟨⟨rfl,rfl,rfl⟩,rfl,rfl,rfl⟩,_⟩:=hx
 exact ⟨⟨E 0,E 1,E 2⟩,E 3,E 4,E 5⟩
end
namespace Pa
open Go Go.Conc Go.ChangeShapes Go.WideShapes Go.ChangeAt Go.RowKit
open Hm (PU rV lN oG wP pJ Rd nT xC jI kF)
open Dv (Tx U Cf)
open Po hiding U H B IT PR NB
section
variable {t:TypeId} {f0 f1 f2 f3:Field} {sp:Nat->Bool} {b:Nat} {D:Nat->Prop} {v:Value}
theorem JI:Tryz.prog.cellsOf 68=3:=by kernel_rfl
theorem yS:Tryz.prog.cellsOf 42=4:=by kernel_rfl
theorem Eo:Tryz.prog.cellsOf 9=1:=by kernel_rfl
theorem Le:Tryz.prog.cellsOf 40=1:=by kernel_rfl
theorem Qu:Tryz.prog.cellsOf 39=1:=by kernel_rfl
theorem ET:Tryz.prog.cellsOf 3=1:=by kernel_rfl
theorem Ep:Tryz.prog.cellsOf 22=1:=by kernel_rfl
theorem Gn:Tryz.prog.cellsOf 24=7:=by kernel_rfl
theorem Ug {H:Type}:∀d:DataW H,1<=Rows.uptoBulk d
 |.lit l=>by cases l<;>simp [Rows.uptoBulk]
 |.nil=>by simp [Rows.uptoBulk]
 |.ptr d=>by simp [Rows.uptoBulk]
 |.slice a b=>by simp [Rows.uptoBulk]
 |.agg a=>by simp [Rows.uptoBulk]
 |.iface a d=>by simp [Rows.uptoBulk]
 |.map m=>by simp [Rows.uptoBulk]
 |.held h=>by simp [Rows.uptoBulk]
theorem Hg {H:Type}:∀l:List (DataW H),l.length<=Rows.uptoBulkAll l
 |[]=>by simp
 |d::l=>by
  have:=Ug d
  have:=Hg l
  simp only [Rows.uptoBulkAll,aN]
  omega
theorem Jg {H:Type} {d:DataW H}:∀{l:List (DataW H)},d∈l->Rows.uptoBulk d<=Rows.uptoBulkAll l
 |[],h=>by cases h
 |e::l,h=>by
  simp only [Rows.uptoBulkAll]
  rcases bV.1 h with rfl|h
  ·omega
  ·have:=Jg h;omega
theorem N8 {α:Type} {Q:Nat->α->Prop}:∀n,(∀i,i < n->∃z,Q i z)->∃l:List α,l.length=n/\∀i z,l[i]? =some z->Q i z
 |0,_=>⟨[],rfl,λi z h=>by simp at h⟩
 |n+1,h=>by
  obtain ⟨l,J,I⟩:=N8 n λi E=>h i (by omega)
  obtain ⟨z,Y⟩:=h n (by omega)
  refine ⟨l++[z],by simp [J],λi y q=>?_⟩
  rcases fQ i l.length with E|E
  ·rw [bP E] at q
   exact I i y q
  ·rw [bK E] at q
   have R:i - l.length=0:=by
    have:=(aF.1 q).1
    simp at this
    omega
   rw [R] at q
   simp at q
   subst q
   rw [show i=n from by omega]
   exact Y
section
variable {H:Type} {enc:TypeId×Value->H} {W:World} {held:Bool}
theorem add_add (a:Addr) (hs:a.spot=none) (n:Nat):a.add n=⟨a.block,a.off+n,none⟩:=by
 obtain ⟨b,o,s⟩:=a
 simp only at hs
 subst hs
 unfold Addr.add
 split
 ·rename_i h;subst h;rfl
 ·rfl
theorem FV {e:TypeId} {k fuel:Nat} {cs:List Value} {x:DataW H×List MemPlace} (ht:Tryz.prog.underlying t=some (.slice e)) (hk:Tryz.prog.cellsOf e=k) (I:0 < k)
  (h:DataW.trod enc Tryz.prog W 0 (λ_=>true) held fuel t cs=some x) {α:Type} (f:α->List Value) (hf:∀a,(f a).length=k) (B:α->DataW H->Prop)
  (af:∀n cs' y,DataW.trod enc Tryz.prog W 0 (λ_=>true) held n e cs'=some y->∃a,cs'=f a/\B a y.1):
  ∃(v:Value) (l:List α),cs=[v]/\Rd W k v l.length (l.flatMap f)/\l.length<=Rows.uptoBulk x.1/\(∃a c,v=.slice a l.length c)/\∀a∈l,∃d,B a d/\Rows.uptoBulk d<=Rows.uptoBulk x.1:=by
 rcases Go.Deep.open_slice ht h with ⟨rfl,rfl⟩|⟨a,len,cap,m,n,D,Pl,rfl,hb,ah,ak,hm,rfl,hx⟩
 ·exact ⟨_,[],rfl,Hm.Rd.nil _ _ _ _,by simp,⟨none,0,rfl⟩,λa h=>by cases h⟩
 simp only [if_true] at hm
 subst hm
 rw [hk] at hx
 have E:0 < m->a.spot=none:=λh0=>by
  obtain ⟨cs',h1,_⟩:=hx 0 h0
  obtain ⟨_,J,hc⟩:=World.cells?_some h1
  have R:=hc 0 I
  rw [aG (by omega)] at R
  unfold World.cell? at R
  split at R
  ·split at R
   ·cases R
   ·rename_i ae
    have e:(a.add (0 * k)).add 0=a:=by simp [Addr.add]
    rw [e] at ae
    simpa using ae
  ·cases R
 have ab:∀i,i < m->∃(z:α) (cs':List Value),cs'.length=k/\(∀j,j < k->W.cell? ⟨a.block,a.off+i * k+j,none⟩=cs'[j]?)/\cs'=f z/\B z (D i):=by
  intro i hi
  obtain ⟨cs',h1,h2⟩:=hx i hi
  obtain ⟨_,J,hc⟩:=World.cells?_some h1
  obtain ⟨z,Y,hB⟩:=af n cs' _ h2
  have hs:=E (by omega)
  refine ⟨z,cs',J,λj hj=>?_,Y,hB⟩
  have:=hc j hj
  rw [add_add a hs,add_add _ rfl] at this
  exact this
 obtain ⟨l,J,hq⟩:=N8 (α:=α) (Q:=λi z=>∃cs':List Value,cs'.length=k/\(∀j,j < k->W.cell? ⟨a.block,a.off+i * k+j,none⟩=cs'[j]?)/\cs'=f z/\B z (D i)) len λi hi=>ab i (by omega)
 have q:Rows.uptoBulkAll ((List.range len).map D)<=Rows.uptoBulk (H:=H) (.slice ((List.range len).map D) ((List.range (m - len)).map λj=>D (len+j))):=by
  simp only [Rows.uptoBulk]
  omega
 refine ⟨_,l,rfl,?_,?_,⟨some a,m,by rw [J]⟩,λz Y=>?_⟩
 ·rw [J]
  have key:∀j u,(l.flatMap f)[j]? =some u->W.cell? ⟨a.block,a.off+j,none⟩=some u:=λj u hj=>by
   have aa:=(aF.1 hj).1
   rw [Hm.nJ f k hf,J] at aa
   have hi:j / k < len:=(Nat.div_lt_iff_lt_mul I).2 aa
   have hr:j % k < k:=Nat.mod_lt _ I
   have ag:j=j / k * k+j % k:=by have:=Nat.div_add_mod j k;rw [Nat.mul_comm] at this;omega
   have Y:l[j / k]? =some l[j / k]:=aG (by omega)
   obtain ⟨cs',c1,c2,c3,_⟩:=hq _ _ Y
   have ac:=Hm.flat_get f k hf l (j / k) (j % k) _ Y hr
   rw [<-ag,hj,<-c3] at ac
   rw [show a.off+j=a.off+j / k * k+j % k by omega,c2 (j % k) hr]
   exact ac.symm
  refine ⟨by rw [Hm.nJ f k hf,J],some a,m,rfl,ah,λh0=>⟨a.block,a.off,?_,?_,key⟩⟩
  ·have hs:=E (by omega)
   obtain ⟨b,o,sp⟩:=a
   simp only at hs
   subst hs
   rfl
  ·have ai:0 < (l.flatMap f).length:=by rw [Hm.nJ f k hf,J];exact Nat.mul_pos h0 I
   have:=key 0 _ (aG ai)
   unfold World.cell? at this
   split at this
   ·exact (dR.1 ‹_›).1
   ·cases this
 ·rw [J]
  have:=Hg ((List.range len).map D)
  rw [aU,List.length_range] at this
  exact aW this q
 ·obtain ⟨i,hi⟩:=jw.1 Y
  obtain ⟨_,_,_,_,hB⟩:=hq i z hi
  have aj:=(aF.1 hi).1
  exact ⟨D i,hB,aW (Jg (bC.2 ⟨i,gI.2 (by omega),rfl⟩)) q⟩
end
section
variable {H:Type} {enc:TypeId×Value->H} {W:World} {held:Bool} {fuel:Nat} {cs:List Value} {x:DataW H×List MemPlace}
theorem Xf (s:ByteArray):Value.string s=nT s.data.toList:=by simp [nT]
theorem FI {k:IntKind} {n:Int} (hk:k=.u32) (h:(Lit.int k n).wf=true):∃m:Nat,n=m:=by
 subst hk
 refine ⟨n.toNat,?_⟩
 have q:IntKind.u32.min=0:=rfl
 simp only [Lit.wf,bY,decide_eq_true_eq] at h
 omega
theorem open_strs (h:DataW.trod enc Tryz.prog W 0 (λ_=>true) held fuel 40 cs=some x):
  ∃v l,cs=[v]/\pJ W v l/\l.length<=Rows.uptoBulk x.1:=by
 obtain ⟨v,l,z,h2,h3,_,_⟩:=FV Tryz.underlying40 Eo (by omega) h (λs=>[nT s]) (λ_=>rfl) (λ_ _=>True) (λn cs' y q=>by
  obtain ⟨s,rfl,rfl,_⟩:=DataW.trod_string Tryz.underlying9 q
  exact ⟨s.data.toList,by rw [<-Xf],trivial⟩)
 refine ⟨v,l,z,?_,h3⟩
 have e:∀l:List (List UInt8),l.flatMap (λs=>[nT s])=l.map nT:=λl=>by induction l with|nil=>rfl|cons a l ih=>simp [ih]
 unfold pJ
 rw [<-e l]
 exact h2
theorem Tj (h:DataW.trod enc Tryz.prog W 0 (λ_=>true) held fuel 39 cs=some x):
  ∃v l,cs=[v]/\wP W v l/\l.length<=Rows.uptoBulk x.1:=by
 obtain ⟨v,l,I,h2,h3,_,_⟩:=FV Tryz.underlying39 JI (by omega) h xC (λ_=>rfl) (λ_ _=>True) (λn cs' y hy=>by
  obtain ⟨y0,y1,y2,n',rfl,q,J,I,h2⟩:=Go.Deep.trod_struct3 Tryz.underlying68 hy
  rw [JI] at q
  match cs',q with
  |[c0,c1,c2],_=>
  simp only [Ep,Eo] at J I h2
  obtain ⟨m0,z,rfl,w0⟩:=DataW.trod_int Tryz.underlying22 J
  obtain ⟨m1,E,rfl,w1⟩:=DataW.trod_int Tryz.underlying22 I
  obtain ⟨s,hs,rfl,_⟩:=DataW.trod_string Tryz.underlying9 h2
  simp at z E hs
  subst z E hs
  obtain ⟨Y,rfl⟩:=FI rfl w0
  obtain ⟨R,rfl⟩:=FI rfl w1
  exact ⟨⟨Y,R,s.data.toList⟩,by simp [xC],trivial⟩)
 exact ⟨v,l,I,h2,h3⟩
theorem trod_struct4 (ht:Tryz.prog.underlying t=some (.struct #[f0,f1,f2,f3])) (h:DataW.trod enc Tryz.prog W b sp held fuel t cs=some x):
  ∃q E J z n,x=(.agg [q.1,E.1,J.1,z.1],q.2++(E.2++(J.2++z.2)))/\cs.length=Tryz.prog.cellsOf t/\DataW.trod enc Tryz.prog W b sp held n f0.type ((cs.drop f0.offset).take (Tryz.prog.cellsOf f0.type))=some q/\
   DataW.trod enc Tryz.prog W b sp held n f1.type ((cs.drop f1.offset).take (Tryz.prog.cellsOf f1.type))=some E/\DataW.trod enc Tryz.prog W b sp held n f2.type ((cs.drop f2.offset).take (Tryz.prog.cellsOf f2.type))=some J/\DataW.trod enc Tryz.prog W b sp held n f3.type ((cs.drop f3.offset).take (Tryz.prog.cellsOf f3.type))=some z:=by
 obtain ⟨xs,n,_,rfl,Y,I,R⟩:=DataW.trod_struct ht h
 match xs,I with
 |[q,E,J,z],_=>exact ⟨q,E,J,z,n,by simp,Y,by simpa using R 0 f0 rfl,by simpa using R 1 f1 rfl,by simpa using R 2 f2 rfl,by simpa using R 3 f3 rfl⟩
theorem Uu (h:DataW.trod enc Tryz.prog W 0 (λ_=>true) held fuel 25 cs=some x) (hb:Rows.uptoBulk x.1<=4294967296):
  ∃v ps a c,cs=[v]/\v=.slice a ps.length c/\lN W (.slice a ps.length c) ps/\ps.length<=4294967296:=by
 obtain ⟨v,l,I,h2,h3,⟨a,c,hv⟩,h4⟩:=FV Tryz.underlying25 yS (by omega) h rV (λ_=>rfl) (λp d=>Rows.uptoBulk d<=4294967296->oG W p.1 p.2.1 p.2.2) (λn cs' y hy=>by
  obtain ⟨y0,y1,y2,y3,n',rfl,q,J,I,h2,h3⟩:=trod_struct4 Tryz.underlying42 hy
  rw [yS] at q
  match cs',q with
  |[c0,c1,c2,c3],_=>
  simp only [ET,Qu,Le] at J I h2 h3
  obtain ⟨m0,z,rfl,w0⟩:=DataW.trod_int Tryz.underlying3 J
  obtain ⟨m1,E,rfl,w1⟩:=DataW.trod_int Tryz.underlying3 I
  obtain ⟨vt,lt,R,t2,b2⟩:=Tj h2
  obtain ⟨vl,ll,Y,t3,b3⟩:=open_strs h3
  simp at z E R Y
  subst z E R Y
  refine ⟨(⟨m0,m1,lt,ll⟩,c2,c3),by simp [rV],λhd=>⟨t2,t3,?_,?_⟩⟩
  ·simp only [Rows.uptoBulk,Rows.uptoBulkAll] at hd;simp only;omega
  ·simp only [Rows.uptoBulk,Rows.uptoBulkAll] at hd;simp only;omega)
 refine ⟨v,l,a,c,I,hv,⟨by rw [<-hv];exact h2,λp hp=>?_⟩,by omega⟩
 obtain ⟨d,hB,hd⟩:=h4 p hp
 exact hB (by omega)
theorem FH {z E I:Field} (ht:Tryz.prog.underlying t=some (.struct #[f0,f1,f2,f3,z,E,I])) (h:DataW.trod enc Tryz.prog W b sp held fuel t cs=some x):
  ∃R y1 y2 y3 y4 y5 Y n,x.2=R.2++(y1.2++(y2.2++(y3.2++(y4.2++(y5.2++(Y.2))))))/\cs.length=Tryz.prog.cellsOf t/\DataW.trod enc Tryz.prog W b sp held n f0.type ((cs.drop f0.offset).take (Tryz.prog.cellsOf f0.type))=some R/\DataW.trod enc Tryz.prog W b sp held n f1.type ((cs.drop f1.offset).take (Tryz.prog.cellsOf f1.type))=some y1/\DataW.trod enc Tryz.prog W b sp held n f2.type ((cs.drop f2.offset).take (Tryz.prog.cellsOf f2.type))=some y2/\DataW.trod enc Tryz.prog W b sp held n f3.type ((cs.drop f3.offset).take (Tryz.prog.cellsOf f3.type))=some y3/\DataW.trod enc Tryz.prog W b sp held n z.type ((cs.drop z.offset).take (Tryz.prog.cellsOf z.type))=some y4/\DataW.trod enc Tryz.prog W b sp held n E.type ((cs.drop E.offset).take (Tryz.prog.cellsOf E.type))=some y5/\DataW.trod enc Tryz.prog W b sp held n I.type ((cs.drop I.offset).take (Tryz.prog.cellsOf I.type))=some Y:=by
 obtain ⟨xs,n,_,rfl,hl,J,q⟩:=DataW.trod_struct ht h
 match xs,J with
 |[R,y1,y2,y3,y4,y5,Y],_=>exact ⟨R,y1,y2,y3,y4,y5,Y,n,by simp,hl,by simpa using q 0 f0 rfl,by simpa using q 1 f1 rfl,by simpa using q 2 f2 rfl,by simpa using q 3 f3 rfl,by simpa using q 4 z rfl,by simpa using q 5 E rfl,by simpa using q 6 I rfl⟩
theorem IY (h:DataW.trod enc Tryz.prog W b sp held fuel 24 cs=some x):∃c:Cf,cs=(jI c).toList/\x.2=[]:=by
 obtain ⟨y0,y1,y2,y3,y4,y5,y6,n,q,hl,Y,z,k2,J,k4,k5,k6⟩:=FH Tryz.underlying24 h
 rw [Gn] at hl
 match cs,hl with
 |[c0,c1,c2,c3,c4,c5,c6],_=>
 simp only [Ep,ET] at Y z k2 J k4 k5 k6
 obtain ⟨m0,E,rfl,w0⟩:=DataW.trod_int Tryz.underlying22 Y
 obtain ⟨m1,e1,rfl,w1⟩:=DataW.trod_int Tryz.underlying22 z
 obtain ⟨m2,e2,rfl,w2⟩:=DataW.trod_int Tryz.underlying3 k2
 obtain ⟨m3,e3,rfl,w3⟩:=DataW.trod_int Tryz.underlying3 J
 obtain ⟨m4,e4,rfl,w4⟩:=DataW.trod_int Tryz.underlying3 k4
 obtain ⟨m5,I,rfl,w5⟩:=DataW.trod_int Tryz.underlying3 k5
 obtain ⟨m6,R,rfl,w6⟩:=DataW.trod_int Tryz.underlying3 k6
 simp at E e1 e2 e3 e4 I R
 subst E e1 e2 e3 e4 I R
 obtain ⟨q0,rfl⟩:=FI rfl w0
 obtain ⟨q1,rfl⟩:=FI rfl w1
 exact ⟨⟨q0,q1,m2,m3,m4,m5,m6⟩,rfl,q⟩
end
theorem Zv:((((begin Tryz.prog (λ_ _=>0) default).world.heap[1]?).bind Obj.row?).map (·.2))=some 306:=by kernel_rfl
theorem Ub:2<=Tryz.prog.globals.size:=of_decide_eq_true (by kernel_rfl)
theorem Kw:Tryz.prog.globals.size < (begin Tryz.prog (λ_ _=>0) default).world.heap.size:=of_decide_eq_true (by kernel_rfl)
theorem Ze {W:World} (h:W.ShapedOpen Tryz.prog):Tryz.prog.globals.size<=W.heap.size:=by
 obtain ⟨o,_,q,_⟩:=h.2 _ jC Kw
 have:=(jE q)
 omega
theorem ab7 {f:FuncId} {fn:Func} {c:Code} {z:Array Value} (q:Tryz.prog.funcs[f]? =some fn) (E:BD f=true) (I:fn.body=some c):rQ (qe Tryz.prog.funcs D) ((base f).at ⟨z,[]⟩ [.code c]):=by
 refine ⟨λi J=>?_,λd hd=>(by cases hd),rfl⟩
 obtain rfl:i=.code c:=by simpa [Frame.at] using J
 rewrite [Dt]
 have:=(NS E q).2
 rw [I] at this
 exact this
section
variable {W:World}
theorem nV (a:Addr):(hush W).cell? a=W.cell? a:=by
 unfold World.cell? hush
 rw [iE]
 cases h:W.heap[a.block]? with
 |none=>rfl
 |some o=>cases o<;>rfl
theorem Gv {s n:Nat} {xs:List Value} (h:Rd W s v n xs):Rd (hush W) s v n xs:=by
 obtain ⟨z,a,cap,e,h2,h3⟩:=h
 refine ⟨z,a,cap,e,h2,λE=>?_⟩
 obtain ⟨g,off,J,q,R⟩:=h3 E
 exact ⟨g,off,J,by simpa [hush] using q,λj u I=>(nV _).trans (R j u I)⟩
theorem UQ {ps:List PU} (h:lN W v ps):lN (hush W) v ps:=⟨Gv h.1,λp hp=>⟨Gv (h.2 p hp).1,Gv (h.2 p hp).2.1,(h.2 p hp).2.2⟩⟩
theorem JK (h:W.ShapedOpen Tryz.prog) (q:kU W):pV (hush W):=by
 refine ⟨⟨⟨(nV _).trans q.1.1,(nV _).trans q.1.2.1,(nV _).trans q.1.2.2⟩,⟨(nV _).trans q.2.1,(nV _).trans q.2.2.1,(nV _).trans q.2.2.2⟩⟩,?_⟩
 have:=Zv
 cases e:(((begin Tryz.prog (λ_ _=>0) default).world.heap[1]?).bind Obj.row?) with
 |none=>rw [e] at this;cases this
 |some z=>
  obtain ⟨zero,t⟩:=z
  rw [e] at this
  simp only [bQ,aC] at this
  obtain ⟨cs,E,_⟩:=h.1 1 zero t (by have:=Ub;omega) e
  subst this
  exact ⟨_,_,_,Nj E rfl,by decide,by decide,by decide,by decide,by decide⟩
theorem O7 {post:Value->World->Prop} {w' y:World} (J:kF (λ_=>False) (hush W) w') (hw:WP (qe Tryz.prog.funcs D) w' y) (hk:Keep (qe Tryz.prog.funcs D) ⟨xY W,W,post⟩ y):Go.RowKit.Below W.heap.size W { y with tape:=W.tape }:=by
 refine ⟨hk.os,rfl,hk.output,hk.size,λk E=>?_⟩
 by_cases z:xY W k
 ·exact (hk.dead k z).2
 ·have R:¬(qe Tryz.prog.funcs D).D k:=λh=>z (hk.old k h E)
  have Y:(hush W).heap.size=W.heap.size:=by simp [hush]
  have I:=(hw.out k R).trans (J.block k (by rw [Y];exact E) (λe=>e))
  refine I.trans ?_
  cases q:W.heap[k]? with
  |none=>rw [Array.getElem?_eq_none_iff] at q;omega
  |some o=>exact Nj q (Bool.eq_false_iff.2 λe=>z ⟨o,q,e⟩)
end
end
end Pa
section
open Go Go.Conc
section
variable {s:OpenSpec} {p:Pinned} {c:OpenClaim}
section
variable {H:Type} {enc:TypeId×Value->H}
theorem qN {a:Assume} {C:Checked} {os:Os} {f:FuncId} {fn:Func} {F:Stop.Interp} {R:List PathCond} {apart fresh z E:Bool} {J:List (String×DataW Unit)}
  (own:ownKnob C.prog.godebug=none) (I:os.Started) (ah:C.prog.funcs[f]? =some fn)
  (Y:∃(w:World) (tape:Tape) (i:Input),w.os=os/\(w.forCall tape i).Shaped C.prog/\i.vars=[]/\Input.okWide C.prog (w.forCall tape i) .any w.heap.size f i/\
   s.preRow enc C.prog fn R apart J (w.forCall tape i).memory i.args/\a.holds C.prog (lone (Frame.enter C.prog f i.args .normal) [] (w.forCall tape i)))
  (runs:∀(W:World) (base:Nat) (args:Array Value) (ds gs:List (DataW H)) (q:List MemPlace),
   (∀(j:Nat) t v,fn.params[j]? =some t->args[j]? =some v->Value.okWide C.prog W .any base t v)->
   DataW.Whole enc C.prog fn.params.toList s.vars apart W args.toList ds gs q->
   (∀k,s.cond=some k->k H (ds++gs)=true)->
   laidMetH C.prog J W->
   W.ShapedOpen C.prog->
   ∃M last o w' t',runNT C.prog (M+1) (solo (G (Frame.enter C.prog f args .normal) []) W) #[]=(.ended o w',t')/\runN C.prog M (solo (G (Frame.enter C.prog f args .normal) []) W)=.next last/\
    step C.prog last=.ended o w'/\Conc.Good C.prog (λv W'=>(s.at F).post enc C.prog fn apart fresh z E W args v W') last o w' t'):
  ReturnsInLeavingWide a C os f .any (s.preRow enc C.prog fn R apart J) ((s.at F).post enc C.prog fn apart fresh z E):=by
 refine returnsInLeavingWide_of_good own I Y ?_
 intro w tape i _ ag _ af ac _
 obtain ⟨_,_,_,ai,ab,_,_,_,_,aa⟩:=af
 have e:ai=fn:=eP (ab.symm.trans ah)
 subst e
 obtain ⟨⟨hp,hl⟩,hz⟩:=ac
 obtain ⟨ds,gs,q,hw,hc,hk⟩:=OpenSpec.pre_parts hp
 have ae:=DataW.Whole.of_heap (w':=w.forCall tape i) (by rfl) hw
 obtain ⟨M,last,o,w',t',h1,h2,h3,h4⟩:=runs (w.forCall tape i) w.heap.size i.args ds gs q aa ae hk (hl.of_heap (by rfl)) ag
 exact ⟨M,last,o,w',t',h1,h2,h3,h4.mono λv hp=>ChangeSpec.post_blind hp⟩
end
theorem rP (f:FuncId) (fn:Func)
  (hn:c.program=p.name) (hs:c.sum=p.sum) (a6:c.spec=s.name)
  (q:c.start=.entering) (z:c.outside=[]) (av:c.inits=[]) (a1:c.under=none) (aq:c.initsInPlace=[]/\c.initsUnfollowed=false/\c.initsRecurse=false/\c.initsNamed=[]/\c.initsPassed=[]) (ai:c.noBlocks=false) (ba:c.leaving=true) (Y:c.followed=none) (ag:c.narrowed=s.cond.isSome) (I:c.still=false)
  (a7:p.checked.prog.funcNamed c.func=some f) (hf:p.checked.prog.funcs[f]? =some fn)
  (E:joinedFacts p.checked.prog f fn s.bare c=true)
  (R:fn.isInstance p.checked.prog c.origin c.targs) (J:fn.isWrapper p.checked.prog c.wrapper c.mainSum)
  (h:∀os:Os,os.Started->∀(H:Type) (enc:TypeId×Value->H),(∀a b,enc a=enc b->a=b)->∀F:Stop.Interp,
   ReturnsInLeavingWide c.assume p.checked os f .any (c.pre enc p.checked.prog fn s) ((s.at F).post enc p.checked.prog fn c.apart c.fresh c.handsOn c.again)):c.holds p s:=by
 simp only [joinedFacts,bY,beq_iff_eq,Array.all_eq_true_iff_forall_mem,eY,decide_eq_true_eq] at E
 obtain ⟨⟨⟨⟨⟨⟨⟨⟨⟨⟨⟨⟨⟨⟨⟨⟨⟨⟨⟨⟨⟨⟨⟨⟨⟨⟨⟨⟨⟨⟨⟨k1,k2⟩,k3⟩,k4⟩,k5⟩,k6⟩,k7⟩,k8⟩,k9⟩,ap⟩,a2⟩,a3⟩,bb⟩,an⟩,ao⟩,a0⟩,ay⟩,ac⟩,am⟩,aw⟩,ar⟩,a4⟩,ax⟩,ah⟩,aa⟩,af⟩,ab⟩,ae⟩,ak⟩,a5⟩,a9⟩,aj⟩:=E
 have hq:∀os:Os,Stop.quiet p.checked.prog os:=λos k hk=>by rw [k9] at hk;cases hk
 refine ⟨k1,hn,hs,a6,k2,k3,by unfold OpenClaim.startFits;rw [q];exact af,by unfold OpenClaim.startTold;rw [q];exact ⟨av,a1,aq⟩,f,fn,a7,hf,⟨k4,aw⟩,(λhb=>by rw [ai] at hb;cases hb),by unfold OpenClaim.namedList;rw [Y];exact k5,R,J,
  k6.trans k7.symm,⟨k8.trans k9.symm,by unfold Program.envWorded;rw [k9];rfl,aa⟩,ap,a2,a3,bb,an,⟨ao,a9,aj⟩,⟨a0,ar⟩,⟨ay,a4,ak,a5⟩,⟨ax,ab,ae,ac⟩,(by rw [z,ag];cases a8:c.shortTexts with|none=>simp|some _=>rw [a8] at ah;cases ah),λn au=>varReadable_some (am n au),
  ⟨_,by unfold OpenClaim.world;rw [z,q];exact WideRow.started_initial,hq _⟩,[],by unfold OpenClaim.lists;rw [Y],λos st _ H enc inj=>?_⟩
 have az:os.Started:=by unfold OpenClaim.world at st;rw [z,q] at st;exact st
 rw [OpenClaim.post_not_still I]
 unfold OpenClaim.form
 rw [q,k6]
 intro F
 have e1:c.okInput=Input.okWide:=by unfold OpenClaim.okInput;rw [ai]
 have e2:c.atReturn p.checked.prog=leavingAtReturn p.checked.prog:=by unfold OpenClaim.atReturn;rw [ba]
 have e3:c.always p.checked.prog []=nothingAlways:=by unfold OpenClaim.always;rw [Y]
 have e4:s.post enc p.checked.prog fn F c.outside c.apart c.fresh c.handsOn c.again=(s.at F).post enc p.checked.prog fn c.apart c.fresh c.handsOn c.again:=by rw [z];rfl
 rw [e1,e2,e3]
 show ReturnsInOpen _ _ _ _ _ _ _ _ (s.post enc p.checked.prog fn F c.outside c.apart c.fresh c.handsOn c.again) _ _
 rw [e4]
 exact h os az H enc inj F af
theorem zl (Lk:Looks) (kinds:List LaidKind) (z:Bool) (q:Bool×String) (lk g:Bool)
  (hc:c.holds p s) (hw:c.wfByText s=true) (E:c.laidByTextAt Lk p kinds z)
  (I:c.start=.entering) (J:c.noBlocks=false/\c.again=false) (hm:p.checked.prog.mainIs=some (q.1,q.2.toList)) (hn:(!q.1&&q.2.isEmpty&&!lk)=false)
  (hl:∀f fn,p.checked.prog.funcNamed c.func=some f->p.checked.prog.funcs[f]? =some fn->lk=p.checked.prog.looks []/\∀(j:Nat) t,fn.params[j]? =some t->p.checked.prog.wantsStandIn t=false)
  (R:g=c.goesBy p.checked.prog):
  Claim7.holds p (.plain s) { stood:={ row:=c,standIns:=[],harness:=q,looks:=lk },kinds:=[],alts:=[],goes:=g,laidByText:=true,laidKinds:=kinds,laidTests:=z,laidLooks:=Lk }:=by
 have h6:∀r:OpenClaim,Claim7.isSixth { stood:={ row:=r,standIns:=[],harness:=q,looks:=lk },kinds:=[] }=false:=λr=>by simpa [Claim7.isSixth] using hn
 exact ⟨Claim7.tied_new_at Lk kinds z (Claim7.new_of_sixth hc q lk I J hm (h6 c) hl) hw,(λD Y=>by cases Y),E,(λh=>by cases h),R⟩
end
end
end Go.Proofs.YtpibpdpedjinhaaGreatDoor
