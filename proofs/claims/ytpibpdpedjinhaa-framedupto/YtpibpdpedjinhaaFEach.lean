/- The walks of frame.Each and its function: it gives, one by one, the frames that Fr.one reads. -/
import Derived.Test.YtpibpdpedjinhaaFFirst
import Derived.TacticsInMore
import Derived.LoopNIn
import Derived.LoopIn
namespace Go.Proofs.Ytpibpdpedjinhaa.Fr
open Go.RowKit Go.Joins
attribute [local go_sem] Oper.semAt_some

/-- what a round is handed: where the frame ends, and the frame -/
structure X where
  e : Nat
  f : F
def X.encs (x : X) : Array Value := #[.int .i64 x.e, .agg #[.int .u32 x.f.chan, .int .u16 x.f.num, .string ⟨x.f.data.toArray⟩, .bool x.f.last]]
def lastE (l : List X) : Nat := l.foldl (fun _ x => x.e) 0
theorem lastE_snoc (l : List X) (x : X) : lastE (l ++ [x]) = x.e := by simp [lastE]
def XY (pre : List X) (_ : X) (_ : Nat) (_ : World) : Prop := pre.length < 1048576
/-- these frames stand ahead of a place, one behind the other, from the beginning on -/
inductive Ate (s : List UInt8) : List F → Nat → Prop
  | nil : Ate s [] 0
  | snoc {l : List F} {p : Nat} {x : F} {n : Nat} : Ate s l p → one s p = some (x, n) → Ate s (l ++ [x]) (p + n)
theorem Ate.le {s : List UInt8} {l : List F} {p : Nat} (h : Ate s l p) : p ≤ s.length ∧ l.length ≤ p := by
  induction h with
  | nil => exact ⟨Nat.zero_le _, Nat.le_refl _⟩
  | snoc h ho ih =>
    have := one_le ho
    simp only [List.length_append, List.length_cons, List.length_nil]
    omega
def Done (s : ByteArray) (xs : List X) : Prop := ∃ p, Ate s.data.toList (xs.map X.f) p ∧ lastE xs = p ∧ one s.data.toList p = none
def Left (s : ByteArray) (xs : List X) : Prop := ∃ p, Ate s.data.toList (xs.map X.f) p ∧ lastE xs = p

set_option maxRecDepth 100000 in
set_option maxHeartbeats 1000000 in
theorem eachFrame_any (s : ByteArray) (w : World) :
    Calls Try.prog 28 #[.string s] w fun e w' => e = .returned (.func (.func 33) #[] #[.pointer (some ⟨w.heap.size, 0, none⟩)]) ∧ w' = w.alloc (.cells #[.string s] 9) := by
  go_enter Try.func28, Try.ntmps28
  go_wp2_with fail
  go_ret
  exact ⟨rfl, rfl⟩

set_option maxRecDepth 100000 in
set_option maxHeartbeats 4000000 in
theorem each_gives (s : ByteArray) (sB : Nat) (w : World) (hs : s.size ≤ 1048576) (hsB : w.cell? ⟨sB, 0, none⟩ = some (.string s)) (hsl : sB < w.heap.size) :
    Gives Try.prog 33 #[.pointer (some ⟨sB, 0, none⟩)] X.encs (fun k => k = sB) XY (Done s) (Left s) w := by
  intro l J Jx W hW hYi hJ0
  have HY : Hid _ := hYi
  have HJ0 : Hid _ := hJ0
  clear hYi hJ0
  refine callsIn_of_wp Try.func33 rfl trivial ?_ rfl
  simp only [Try.ntmps33, List.size_toArray, List.length_cons, List.length_nil, Nat.reduceAdd, Nat.reduceSub, Array.replicate_succ, Array.replicate_zero, List.push_toArray, List.append_toArray, List.nil_append, List.cons_append]
  gi_wp2
  gi_loopw [3] (fun t wr => ∃ (pre : List X) (W0 : World) (p : Nat), t = .int .i64 p ∧ Hid (Ate s.data.toList (pre.map X.f) p ∧ lastE pre = p ∧ p ≤ s.size ∧ pre.length ≤ p ∧ J pre W0 ∧ Below W0.heap.size W0 wr ∧ sB < wr.heap.size) ∧ wr.cell? ⟨sB, 0, none⟩ = some (.string s))
    (fun t wr => s.size - (intOf t).toNat)
  case atStart =>
    have := hW.size
    exact ⟨[], W, 0, rfl, ⟨Ate.nil, rfl, Nat.zero_le _, Nat.le_refl _, HJ0.out, Below.refl _ _, by omega⟩, (hW.cell (p := ⟨sB, 0, none⟩) hsl).trans hsB⟩
  case round =>
    obtain ⟨pre, W0, p, rfl, Hr, c0⟩ := hrel
    clear hsB
    have hps := Hr.out.2.2.1
    have hss : (s.extract p s.size).size ≤ 16777216 := by simp; omega
    have hsl2 : (s.extract p s.size).data.toList = s.data.toList.drop p := by rw [ext_list, List.take_of_length_le (by rw [← Lib.size_eq]; omega)]
    have hcall := first_any (s.extract p s.size) wr hss
    rw [hsl2, ← one_drop _ _ (by rw [← Lib.size_eq]; exact hps)] at hcall
    have hsw := Hr.out.2.2.2.2.2.2
    generalize hC : one s.data.toList p = C at hcall
    have Hcall : Hid _ := hcall
    have HC : Hid _ := hC
    have hp0 : (0 : Int) ≤ (p : Int) := by omega
    have hp1 : (p : Int) ≤ (s.size : Int) := by omega
    clear hcall hC hsl2
    gi_wp2
    refine ⟨trivial, (callsIn_wide.2 Hcall.out).mono ?_⟩
    rintro e w1 ⟨rfl, hb1⟩
    obtain ⟨he, hle, _, hpl, hJ, hbw, _⟩ := Hr.out
    have hbw1 := hbw.trans (hb1.mono hbw.size)
    have c1 := (hb1.cell (p := ⟨sB, 0, none⟩) hsw).trans c0
    cases C with
    | none =>
      simp only [fv]
      have HE : Hid _ := And.intro he (And.intro hle (And.intro hJ hbw1))
      clear he hle hJ hbw hbw1 hb1 hpl
      gi_wp2
      refine bodyPost_ret (results_none rfl _ _ _) rfl ?_
      obtain ⟨he, hle, hJ, hbw1⟩ := HE.out
      exact ⟨⟨_, rfl⟩, .inl ⟨pre, W0, ⟨p, he, hle, HC.out⟩, hJ, hbw1.alloc hbw1.size _⟩⟩
    | some x =>
      obtain ⟨f, n⟩ := x
      have ho := one_le HC.out
      rw [← Lib.size_eq] at ho
      simp only [fv]
      obtain ⟨G, hG⟩ : ∃ G : World, G = w1.alloc (.cells #[.int .u32 f.chan, .int .u16 f.num, .string ⟨f.data.toArray⟩, .bool f.last] 42) := ⟨_, rfl⟩
      have hbG : Below W0.heap.size W0 G := by rw [hG]; exact hbw1.alloc hbw1.size _
      have g0 : G.cell? ⟨w1.heap.size, 0, none⟩ = some (.int .u32 f.chan) := by rw [hG]; simp
      obtain ⟨fn, tmps, assign, body, hy, hR⟩ := HY.out pre ⟨p + n, f⟩ W0 G hJ hbG (by unfold XY; omega)
      simp only [X.encs, Int.natCast_add] at hy
      have HR : Hid _ := hR
      have HE : Hid _ := And.intro he (And.intro hle (And.intro hJ (And.intro hbG hb1)))
      have c2 : G.heap[sB]? = wr.heap[sB]? := by rw [hG, Below.heap_alloc _ _ _ (by have := hb1.size; omega)]; exact hb1.block _ hsw
      have s2 : G.heap.size = w1.heap.size + 1 := by rw [hG]; simp
      have s1 := hb1.size
      clear hR he hle hJ hbw hbw1 hb1 hbG g0
      have hpn' : (p : Int) + (n : Int) ≤ 16777216 := by omega
      rw [hG] at hy
      gi_wp2
      rw [← hG]
      refine RoundIn.mono HR.out ?_
      rintro e W3 (⟨rfl, hJ3, hs3, hk3⟩ | ⟨rfl, hJx3⟩)
      · gi_wp2
        go_roundw
        case rel =>
          obtain ⟨he, hle, hJ, hbG, hb1⟩ := HE.out
          have q1 := hk3 sB rfl
          refine ⟨pre ++ [⟨p + n, f⟩], W3, p + n, by simp, ⟨?_, lastE_snoc _ _, ho.2, by simp; omega, hJ3, Below.refl _ _, by omega⟩, ?_⟩
          · rw [List.map_append]
            exact Ate.snoc he HC.out
          · exact (World.cell?_of_block (q1.trans c2)).trans c0
        case measure => simp [intOf]; omega
      · gi_wp2
        refine bodyPost_ret (results_none rfl _ _ _) rfl ?_
        refine ⟨⟨_, rfl⟩, .inr ⟨pre ++ [⟨p + n, f⟩], W3, ⟨p + n, ?_, lastE_snoc _ _⟩, hJx3, Below.refl _ _⟩⟩
        rw [List.map_append]
        exact Ate.snoc HE.out.1 HC.out
end Go.Proofs.Ytpibpdpedjinhaa.Fr
