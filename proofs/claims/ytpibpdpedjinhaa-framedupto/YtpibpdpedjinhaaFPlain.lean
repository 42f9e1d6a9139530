/- Plain mathematics of frames: what stands behind the byte 0, frame by frame. No program is named here. -/
import Init
namespace Go.Proofs.Ytpibpdpedjinhaa.Fr

/-- a frame -/
structure F where
  chan : Nat
  num : Nat
  data : List UInt8
  last : Bool
/-- so many bytes from a place on, as a number, the highest first -/
def big (s : List UInt8) (p : Nat) : Nat → Nat
  | 0 => 0
  | k + 1 => 256 * big s p k + (s.getD (p + k) 0).toNat
theorem big_lt (s : List UInt8) (p : Nat) : ∀ k, big s p k < 256 ^ k
  | 0 => by simp [big]
  | k + 1 => by
    have h1 := big_lt s p k
    have h2 := (s.getD (p + k) 0).toNat_lt
    rw [big, Nat.pow_succ]
    omega
/-- the frame that begins at a place, and how many bytes it has -/
def one (s : List UInt8) (p : Nat) : Option (F × Nat) :=
  if s.length < p + 9 then none
  else if s.length < p + 9 + big s (p + 6) 2 then none
  else if 1 < (s.getD (p + 8 + big s (p + 6) 2) 0).toNat then none
  else some (⟨big s p 4, big s (p + 4) 2, (s.take (p + 8 + big s (p + 6) 2)).drop (p + 8), (s.getD (p + 8 + big s (p + 6) 2) 0).toNat == 1⟩, 9 + big s (p + 6) 2)
theorem one_far {s : List UInt8} {p : Nat} (h : ¬ s.length < p + 9) : one s p = if s.length < p + 9 + big s (p + 6) 2 then none
  else if 1 < (s.getD (p + 8 + big s (p + 6) 2) 0).toNat then none
  else some (⟨big s p 4, big s (p + 4) 2, (s.take (p + 8 + big s (p + 6) 2)).drop (p + 8), (s.getD (p + 8 + big s (p + 6) 2) 0).toNat == 1⟩, 9 + big s (p + 6) 2) := by
  unfold one
  rw [if_neg h]
theorem one_near {s : List UInt8} {p : Nat} (h : s.length < p + 9) : one s p = none := by
  unfold one
  rw [if_pos h]
/-- all frames from a place on -/
def rest : Nat → List UInt8 → Nat → Option (List F)
  | 0, s, p => if s.length ≤ p then some [] else none
  | f + 1, s, p => if s.length ≤ p then some [] else match one s p with
    | none => none
    | some (x, n) => (rest f s (p + n)).map (x :: ·)
/-- the frames of bytes (P5) -/
def frames (s : List UInt8) : Option (List F) := if s.length < 2 ∨ s.getD 0 0 ≠ 0 then none else rest s.length s 1
theorem one_le {s : List UInt8} {p : Nat} {x : F} {n : Nat} (h : one s p = some (x, n)) : 9 ≤ n ∧ p + n ≤ s.length := by
  unfold one at h
  split at h
  · simp at h
  · split at h
    · simp at h
    · split at h
      · simp at h
      · simp only [Option.some.injEq, Prod.mk.injEq] at h
        omega
/-- these frames have been read, up to this place -/
inductive Eaten (s : List UInt8) : List F → Nat → Prop
  | nil : Eaten s [] 1
  | snoc {l : List F} {p : Nat} {x : F} {n : Nat} : Eaten s l p → p < s.length → one s p = some (x, n) → Eaten s (l ++ [x]) (p + n)
theorem Eaten.le {s : List UInt8} {l : List F} {p : Nat} (hs : 1 ≤ s.length) (h : Eaten s l p) : p ≤ s.length ∧ l.length < p := by
  induction h with
  | nil => exact ⟨hs, Nat.lt_succ_self _⟩
  | snoc h hp ho ih =>
    have := one_le ho
    simp only [List.length_append, List.length_cons, List.length_nil]
    omega
theorem Eaten.rest {s : List UInt8} {l : List F} {p : Nat} (h : Eaten s l p) : ∀ f, l.length ≤ f → Fr.rest f s 1 = (Fr.rest (f - l.length) s p).map (fun r => l ++ r) := by
  induction h with
  | nil => intro f _; simp
  | @snoc l p x n h hp ho ih =>
    intro f hf
    simp only [List.length_append, List.length_cons, List.length_nil] at hf ⊢
    rw [ih f (by omega)]
    obtain ⟨f', hf'⟩ : ∃ f', f - l.length = f' + 1 := ⟨f - l.length - 1, by omega⟩
    rw [hf', Fr.rest, if_neg (by omega), ho]
    simp only
    rw [show f - (l.length + (0 + 1)) = f' from by omega]
    cases Fr.rest f' s (p + n) <;> simp
theorem Eaten.all {s : List UInt8} {l : List F} {p : Nat} (h2 : ¬ (s.length < 2 ∨ s.getD 0 0 ≠ 0)) (h : Eaten s l p) (hp : s.length ≤ p) : frames s = some l := by
  have := h.le (by omega)
  rw [frames, if_neg h2, h.rest s.length (by omega)]
  cases s.length - l.length <;> simp [Fr.rest, hp]
theorem Eaten.stuck {s : List UInt8} {l : List F} {p : Nat} (h2 : ¬ (s.length < 2 ∨ s.getD 0 0 ≠ 0)) (h : Eaten s l p) (hp : p < s.length) (hn : one s p = none) : frames s = none := by
  have := h.le (by omega)
  rw [frames, if_neg h2, h.rest s.length (by omega)]
  cases s.length - l.length with
  | zero => rw [Fr.rest, if_neg (by omega)]; rfl
  | succ f => rw [Fr.rest, if_neg (by omega), hn]; rfl
theorem frames_no {s : List UInt8} (h : s.length < 2 ∨ s.getD 0 0 ≠ 0) : frames s = none := by rw [frames, if_pos h]
end Go.Proofs.Ytpibpdpedjinhaa.Fr
