/- A range over a function that makes, between two rounds, the memory of what it hands on: its contract, and the law of the loop over it. -/
import Derived.RangeFuncNested
import Derived.RangeFuncBound
import Derived.RangeFuncCalls
import Derived.RangeFuncLeaves
import Derived.Below
namespace Go.Proofs.Ytpibpdpedjinhaa.Fr
open Go.RowKit

theorem below_put {B : Nat} {a b : World} (h : Below B a b) (l : Nat) (o : Obj) (hl : l < a.heap.size) : Below B (a.putObj l o) (b.putObj l o) :=
  ⟨h.os, h.tape, h.output, by simp; exact h.size, fun k hk => by
    by_cases e : k = l
    · subst e; rw [World.putObj_heap_same hl, World.putObj_heap_same (Nat.lt_of_lt_of_le hl h.size)]
    · rw [World.putObj_heap_other e, World.putObj_heap_other e]; exact h.block k hk⟩
theorem put_alloc (w : World) (l : Nat) (o o' : Obj) (hl : l < w.heap.size) : (w.alloc o).putObj l o' = (w.putObj l o').alloc o := by
  have : (w.heap.push o).setIfInBounds l o' = (w.heap.setIfInBounds l o').push o := by
    apply Array.ext_getElem?
    intro i
    simp only [Array.getElem?_setIfInBounds, Array.getElem?_push, Array.size_push, Array.size_setIfInBounds]
    by_cases e : l = i
    · subst e; simp [hl, Nat.ne_of_lt hl]; omega
    · simp [e]
  show { (w.alloc o) with heap := (w.alloc o).heap.setIfInBounds l o' } = { (w.putObj l o') with heap := (w.putObj l o').heap.push o }
  have e1 : (w.alloc o).heap = w.heap.push o := rfl
  have e2 : (w.putObj l o').heap = w.heap.setIfInBounds l o' := rfl
  rw [e1, e2, this]
  rfl

/-- THE CONTRACT: a round is handed x at W1, behind W0 of the round ahead; what of x lies in memory lies there from W0's end on (Y). A round that goes on keeps the blocks ks. -/
def Gives {α : Type} (P : Program) (g : Nat) (lb : Array Value) (encs : α → Array Value) (ks : Nat → Prop) (Y : List α → α → Nat → World → Prop) (S Sp : List α → Prop) (w : World) : Prop :=
  ∀ (l : Nat) (J Jx : List α → World → Prop) (W : World), Below w.heap.size w W →
    (∀ pre x W0 W1, J pre W0 → Below W0.heap.size W0 W1 → Y pre x W0.heap.size W1 → YieldAt Fence.wide 1 P l (encs x) W1 fun e W' =>
      (e = .returned (.bool true) ∧ J (pre ++ [x]) W' ∧ W1.heap.size ≤ W'.heap.size ∧ ∀ k, ks k → W'.heap[k]? = W1.heap[k]?) ∨ (e = .returned (.bool false) ∧ Jx (pre ++ [x]) W')) →
    J [] W →
    CallsIn Fence.wide 2 P g (#[.func (.yield l) #[] #[]] ++ lb) W fun e W' => (∃ v, e = .returned v) ∧ ((∃ xs W0, S xs ∧ J xs W0 ∧ Below W0.heap.size W0 W') ∨ (∃ pre W0, Sp pre ∧ Jx pre W0 ∧ Below W0.heap.size W0 W'))

/-- how the body of a round may be left -/
def rpost {α : Type} (B : Nat) (ks : Nat → Prop) (I : List α → World → Prop) (Ix : Code → List α → World → Prop) (xs : List α) (W : World) : Exit → Act → World → Prop
  | .normal, _, W' => KeepsFrom B W W' ∧ (∀ k, ks k → W'.heap[k]? = W.heap[k]?) ∧ I xs W'
  | .ret, _, W' => KeepsFrom B W W' ∧ Ix .ret xs W'
  | .exit id, _, W' => KeepsFrom B W W' ∧ Ix (.exit id) xs W'
  | .goto t, _, W' => KeepsFrom B W W' ∧ Ix (.goto t) xs W'
  | .panic _, _, _ => False
  | .outgrown, _, _ => False

theorem range_gives {α : Type} {P : Program} {g : Operand} {ps : Array Tmp} {assign body : Code} {Q : Exit → Act → World → Prop} {a : Act} {w : World}
    {gf : Nat} {lb : Array Value} (hg : a.eval g = .func (.func gf) #[] lb) (eg : ∀ args w, (callFunc gf args).run P w = .ok (.enter gf args) w)
    {encs : α → Array Value} {ks : Nat → Prop} {Y : List α → α → Nat → World → Prop} {S Sp : List α → Prop} {w0 : World} (hseq : Gives P gf lb encs ks Y S Sp w0) (hb0 : Below w0.heap.size w0 w)
    (hks : ∀ k, ks k → k < w.heap.size) (hY : ∀ pre x lo W W', (∀ k, lo ≤ k → W'.heap[k]? = W.heap[k]?) → W'.heap.size = W.heap.size → Y pre x lo W → Y pre x lo W') (hps : ∀ x, (encs x).size = ps.size)
    (I : List α → World → Prop) (Ix : Code → List α → World → Prop) (hI : OwnFrom w.heap.size I) (hIx : ∀ c, OwnFrom w.heap.size (Ix c)) (h0 : I [] w) (a₁ : α → Nat → Act) (ox : α → Obj)
    (hassign : ∀ (l : Nat) (x : α) (W : World) (K : Act → World → Prop), K (a₁ x W.heap.size) (W.alloc (ox x)) →
      assign.wpIn (Fence.wide.inRound l) 1 P (Exit.then K (fun _ _ _ => False)) { tmps := (ps.zip (encs x)).foldl (fun t (p, v) => t.setIfInBounds p v) a.tmps, defers := [] } W)
    (hbody : ∀ (l : Nat) (pre : List α) (x : α) (W0 W1 : World), w.heap.size < W0.heap.size → I pre W0 → Below W0.heap.size W0 W1 → Y pre x W0.heap.size W1 → body.wpIn (Fence.wide.inRound l) 1 P (rpost w.heap.size ks I Ix (pre ++ [x]) (W1.alloc (ox x))) (a₁ x W1.heap.size) (W1.alloc (ox x)))
    (hdone : ∀ (D : Nat) (xs : List α) (W0 W : World), w.heap.size ≤ D → D < W0.heap.size → S xs → I xs W0 → Below W0.heap.size W0 W → W.heap[D]? = some (.deferred (some [])) → Q .normal { a with defers := { target := .collected D, args := #[] } :: a.defers } W)
    (hstop : ∀ (D : Nat) (c : Code) (pre : List α) (W0 W : World), w.heap.size ≤ D → D < W0.heap.size → Sp pre → Ix c pre W0 → Below W0.heap.size W0 W → W.heap[D]? = some (.deferred (some [])) → c.wpIn Fence.wide 3 P Q { a with defers := { target := .collected D, args := #[] } :: a.defers } W) :
    (Code.rangeFunc g ps assign body).wpIn Fence.wide 3 P Q a w := by
  refine wpIn_rangeFunc fun fn hfn => ?_
  obtain ⟨rc, hrc⟩ : ∃ rc : LoopState → Option Code → Loop, rc = fun st pe => { state := st, pending := pe, fn, tmps := a.tmps, params := ps, assign, body, defers := w.heap.size } := ⟨_, rfl⟩
  obtain ⟨V, hV⟩ : ∃ V, (w.alloc (.deferred (some []))).alloc (.loop (rc .ready none)) = V := ⟨_, rfl⟩
  have vl : V.heap[w.heap.size + 1]? = some (.loop (rc .ready none)) := by
    have := World.alloc_heap_new (w.alloc (.deferred (some []))) (.loop (rc .ready none))
    rw [World.size_alloc, hV] at this
    exact this
  have vd : V.heap[w.heap.size]? = some (.deferred (some [])) := by rw [← hV]; exact (Below.heap_alloc _ _ _ (by simp)).trans (World.alloc_heap_new w _)
  have vI : I [] V := by rw [← hV]; exact hI.alloc _ (hI.alloc _ h0)
  have vb : Below w0.heap.size w0 V := by rw [← hV]; exact hb0.trans ((((Below.refl _ w).alloc (Nat.le_refl _) _).alloc (by simp) _).mono hb0.size)
  refine ⟨w.heap.size + 1, [{ target := .collected w.heap.size, args := #[] }], V, { target := .fn (.func gf) lb, args := #[.func (.yield (w.heap.size + 1)) #[] #[]] }, V, gf,
    #[.func (.yield (w.heap.size + 1)) #[] #[]] ++ lb, V, ?_, ?_, fun _ _ => trivial, by simp [invoke, go_sem, eg], fun h => by simp [Fence.wide] at h, ?_⟩
  · rw [← hV, hrc]; exact run_enterLoop_outer _ _ _ _ _
  · simp only [resolve, hg]
    simp [go_sem]
  -- what the law itself keeps beside the caller's word: the loop's record, and the block for deferred calls
  refine (hseq (w.heap.size + 1)
    (fun pre W => I pre W ∧ W.heap[w.heap.size + 1]? = some (.loop (rc .ready none)) ∧ W.heap[w.heap.size]? = some (.deferred (some [])))
    (fun pre W => ∃ c, Ix c pre W ∧ W.heap[w.heap.size + 1]? = some (.loop (rc .done (some c))) ∧ W.heap[w.heap.size]? = some (.deferred (some []))) V vb ?_ ⟨vI, vl, vd⟩).mono ?_
  · rintro pre x W0 W1 ⟨i0, l0, d0⟩ hb hy
    have lt0 : w.heap.size + 1 < W0.heap.size := (Array.getElem?_eq_some_iff.1 l0).1
    have l1 := (hb.block _ lt0).trans l0
    have d1 := (hb.block _ (by omega : w.heap.size < W0.heap.size)).trans d0
    have lt1 : w.heap.size + 1 < W1.heap.size := (Array.getElem?_eq_some_iff.1 l1).1
    have ry := run_yield (P := P) (args := encs x) l1 (by rw [hrc]; exact hps x)
    rw [hrc] at ry
    refine ⟨fn, _, assign, body, ry, roundIn_of_wpIn hfn (hassign _ x W1 _ ⟨_, run_beginRound ((Below.heap_alloc _ _ _ lt1).trans l1) (by rw [hrc]), ?_⟩)⟩
    clear ry
    rw [put_alloc _ _ _ _ lt1]
    obtain ⟨o, ho⟩ : ∃ o : Obj, Obj.loop { rc .ready none with state := .busy } = o := ⟨_, rfl⟩
    rw [ho]
    have b1 := below_put hb (w.heap.size + 1) o lt0
    have y1 : Y pre x (W0.putObj (w.heap.size + 1) o).heap.size (W1.putObj (w.heap.size + 1) o) := by
      rw [World.putObj_size]
      exact hY pre x _ W1 _ (fun k hk => World.putObj_heap_other (by omega)) (by simp) hy
    have hb' := hbody (w.heap.size + 1) pre x _ _ (by simp; omega) (hI.putObj o i0 (by omega) l0 rfl) (by simpa using b1) y1
    rw [World.putObj_size] at hb'
    refine wpIn_mono hb' ?_
    clear hb'
    have hl2 : ((W1.putObj (w.heap.size + 1) o).alloc (ox x)).heap[w.heap.size + 1]? = some o := (Below.heap_alloc _ _ _ (by simp; omega)).trans (World.putObj_heap_same lt1)
    have hd2 : ((W1.putObj (w.heap.size + 1) o).alloc (ox x)).heap[w.heap.size]? = some (.deferred (some [])) := (Below.heap_alloc _ _ _ (by simp; omega)).trans ((World.putObj_heap_other (by omega)).trans d1)
    have fin : ∀ (jump : Option Code) (W3 : World), KeepsFrom w.heap.size ((W1.putObj (w.heap.size + 1) o).alloc (ox x)) W3 →
        (Instr.endRound (w.heap.size + 1) jump).run P W3 = .ok (.bool jump.isNone) (W3.putObj (w.heap.size + 1) (.loop (rc (if jump.isNone then .ready else .done) jump))) ∧
        W3.heap[w.heap.size + 1]? = some o ∧
        (W3.putObj (w.heap.size + 1) (.loop (rc (if jump.isNone then .ready else .done) jump))).heap[w.heap.size + 1]? = some (.loop (rc (if jump.isNone then .ready else .done) jump)) ∧
        (W3.putObj (w.heap.size + 1) (.loop (rc (if jump.isNone then .ready else .done) jump))).heap[w.heap.size]? = some (.deferred (some [])) := fun jump W3 hk3 => by
      have q1 := hk3.same _ _ (by omega) hl2 (by rw [← ho]; rfl)
      have q2 := hk3.same _ _ (Nat.le_refl _) hd2 rfl
      have q1' := q1
      rw [← ho] at q1'
      have := run_endRound (P := P) jump q1'
      refine ⟨?_, q1, World.putObj_heap_same (Array.getElem?_eq_some_iff.1 q1).1, (World.putObj_heap_other (by omega)).trans q2⟩
      rw [hrc] at this ⊢
      exact this
    rintro e a3 W3 hp
    cases e with
    | normal =>
      obtain ⟨k3, kk, i3⟩ := hp
      obtain ⟨hr, l3, l4, d4⟩ := fin none W3 k3
      refine ⟨_, _, hr, .inl ⟨rfl, ⟨hI.putObj _ i3 (by omega) l3 (by rw [← ho]; rfl), l4, d4⟩, by have := k3.size; simp at this ⊢; omega, fun k hk => ?_⟩⟩
      have hkw := hks k hk
      rw [World.putObj_heap_other (by omega), kk k hk, Below.heap_alloc _ _ _ (by simp; omega), World.putObj_heap_other (by omega)]
    | ret =>
      obtain ⟨k3, i3⟩ := hp
      obtain ⟨hr, l3, l4, d4⟩ := fin (some .ret) W3 k3
      exact ⟨_, _, hr, .inr ⟨rfl, .ret, (hIx _).putObj _ i3 (by omega) l3 (by rw [← ho]; rfl), l4, d4⟩⟩
    | exit id =>
      obtain ⟨k3, i3⟩ := hp
      obtain ⟨hr, l3, l4, d4⟩ := fin (some (.exit id)) W3 k3
      exact ⟨_, _, hr, .inr ⟨rfl, .exit id, (hIx _).putObj _ i3 (by omega) l3 (by rw [← ho]; rfl), l4, d4⟩⟩
    | goto t =>
      obtain ⟨k3, i3⟩ := hp
      obtain ⟨hr, l3, l4, d4⟩ := fin (some (.goto t)) W3 k3
      exact ⟨_, _, hr, .inr ⟨rfl, .goto t, (hIx _).putObj _ i3 (by omega) l3 (by rw [← ho]; rfl), l4, d4⟩⟩
    | panic ch => exact hp.elim
    | outgrown => exact hp.elim
  · rintro e W2 ⟨⟨v, rfl⟩, (⟨xs, W0, hS, ⟨i0, l0, d0⟩, hb⟩ | ⟨pre, W0, hS, ⟨c, i0, l0, d0⟩, hb⟩)⟩
    · have lt0 : w.heap.size + 1 < W0.heap.size := (Array.getElem?_eq_some_iff.1 l0).1
      have l2 := (hb.block _ lt0).trans l0
      have d2 := (hb.block _ (by omega : w.heap.size < W0.heap.size)).trans d0
      refine ⟨none, _, by have := run_endLoop (P := P) l2 (by rw [hrc]; simp); rw [hrc] at this; exact this, ?_⟩
      exact hdone _ xs _ _ (Nat.le_refl _) (by simp; omega) hS (hI.putObj _ i0 (by omega) l0 rfl) (by simpa using below_put hb (w.heap.size + 1) _ lt0) ((World.putObj_heap_other (by omega)).trans d2)
    · have lt0 : w.heap.size + 1 < W0.heap.size := (Array.getElem?_eq_some_iff.1 l0).1
      have l2 := (hb.block _ lt0).trans l0
      have d2 := (hb.block _ (by omega : w.heap.size < W0.heap.size)).trans d0
      refine ⟨some c, _, by have := run_endLoop (P := P) l2 (by rw [hrc]; simp); rw [hrc] at this; exact this, ?_⟩
      exact hstop _ c pre _ _ (Nat.le_refl _) (by simp; omega) hS ((hIx c).putObj _ i0 (by omega) l0 rfl) (by simpa using below_put hb (w.heap.size + 1) _ lt0) ((World.putObj_heap_other (by omega)).trans d2)
end Go.Proofs.Ytpibpdpedjinhaa.Fr
