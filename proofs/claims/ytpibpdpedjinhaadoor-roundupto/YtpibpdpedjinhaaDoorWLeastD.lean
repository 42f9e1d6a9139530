/- The walk of tributaryref.Least: it gives Sq.few of the bytes turned round, for strings of at most 2^20 bytes. -/
import Derived.Test.YtpibpdpedjinhaaDoorWSpreadD
import Derived.Test.YtpibpdpedjinhaaDoorWItem
import Derived.Lib.SmallJoins
import Derived.Deep.QuietTactic
import Derived.BigQuiet
import Derived.Deep.DeepCutAuto
namespace Go.Proofs.YtpibpdpedjinhaaDoor
open Go.RowKit Go.Joins

theorem size_zero {s : ByteArray} (h : s.size = 0) : s = ByteArray.empty := by
  obtain ⟨⟨l⟩⟩ := s
  have : l = [] := List.eq_nil_of_length_eq_zero h
  rw [this]
  rfl
theorem empty_size : (⟨#[]⟩ : ByteArray).size = 0 := rfl
/-- a row of ints of the call's own -/
def Ints (B : Nat) (zs : List Int) (w : World) : Prop := w.heap[B]? = some (.cells (zs.map (Value.int .i64)).toArray 3 (0, 0))
theorem Ints.cell {B : Nat} {zs : List Int} {w : World} (h : Ints B zs w) (j : Nat) (hj : j < zs.length) : w.cell? ⟨B, j, none⟩ = some (.int .i64 (zs.getD j 0)) := by
  rw [Lib.cell_of_heap h j]
  simp [hj]
theorem Ints.free {B : Nat} {zs : List Int} {w : World} (h : Ints B zs w) (j : Nat) : w.frozen? ⟨B, j, none⟩ = false := Lib.frozen_of_heap h j
theorem Ints.set {B : Nat} {zs : List Int} {w : World} (h : Ints B zs w) (j : Nat) (v : Int) : Ints B (zs.set j v) (w.setCell ⟨B, j, none⟩ (.int .i64 v)) := by
  have := block_setCell h (i := j) (.int .i64 v)
  rw [Ints, this]
  congr 2
  apply Array.ext'
  simp [List.map_set]
theorem made_ints (n : Nat) : madeCells #[Value.int .i64 0] n = ((List.replicate n (0 : Int)).map (Value.int .i64)).toArray := by
  apply Array.ext
  · simp [madeCells]
  · intro i h1 h2
    simp [madeCells]
    rw [Nat.mod_one]
    rfl
theorem info_int : (Tryd.prog.info? 3).map (fun i => (i.zero, i.size, i.bytes)) = some (some (.int .i64 0), 1, 8) := by kernel_rfl

/-- the beginning of so many bytes, turned round -/
def U (l : List UInt8) (j : Nat) : List UInt8 := (l.take j).reverse
/-- the fewest bytes for it -/
def F (big : Nat) (l : List UInt8) (j : Nat) : Nat := Sq.few big (U l j)
theorem F_le (big : Nat) (l : List UInt8) (j : Nat) : F big l j ≤ 2 * j := by
  have := Sq.few_small big (U l j)
  have h2 : (U l j).length ≤ j := by simp [U]; omega
  unfold F
  omega
def G (big : Nat) (l : List UInt8) (I K : Nat) : Nat := Sq.inner big (Sq.same (U l I)) (Sq.fewTab big (U l (I - 1))) K
def Rn (l : List UInt8) (I : Nat) : Nat := Sq.same (U l I)

theorem U_drop (l : List UInt8) (m d : Nat) (hd : d ≤ m) (hm : m ≤ l.length) : (U l m).drop d = U l (m - d) := by
  unfold U
  rw [List.drop_reverse, List.take_take, List.length_take]
  congr 2
  omega
theorem T_get (big : Nat) (l : List UInt8) (I K : Nat) (h1 : 1 ≤ K) (h2 : K ≤ I) (h3 : I ≤ l.length) : (Sq.fewTab big (U l (I - 1))).getD (K - 1) 0 = F big l (I - K) := by
  have hl : (U l (I - 1)).length = I - 1 := by simp [U]; omega
  rw [Sq.fewTab_drop big (K - 1) _ (by omega), U_drop l _ _ (by omega) (by omega)]
  unfold F
  congr 2
  omega
/-- the first half of a round -/
def C (big : Nat) (l : List UInt8) (I K : Nat) : Nat := if F big l (I - K) + 1 + K < G big l I (K - 1) then F big l (I - K) + 1 + K else G big l I (K - 1)
theorem G_step (big : Nat) (l : List UInt8) (I K : Nat) (h1 : 1 ≤ K) (h2 : K ≤ I) (h3 : I ≤ l.length) :
    G big l I K = if K ≤ Rn l I ∧ 2 ≤ K ∧ F big l (I - K) + 2 < C big l I K then F big l (I - K) + 2 else C big l I K := by
  obtain ⟨k, rfl⟩ : ∃ k, K = k + 1 := ⟨K - 1, by omega⟩
  have t := T_get big l I (k + 1) h1 h2 h3
  unfold C Rn
  rw [Nat.add_sub_cancel] at t ⊢
  unfold G
  rw [Sq.inner, Sq.cand, t]
theorem G_le (big : Nat) (l : List UInt8) (I : Nat) : ∀ K : Nat, G big l I K ≤ big
  | 0 => Nat.le_refl _
  | K + 1 => by
    have ih := G_le big l I K
    unfold G at ih ⊢
    rw [Sq.inner]
    have c := Sq.cand_le (Sq.fewTab big (U l (I - 1))) K (Sq.inner big (Sq.same (U l I)) (Sq.fewTab big (U l (I - 1))) K)
    split <;> omega
theorem C_le (big : Nat) (l : List UInt8) (I K : Nat) : C big l I K ≤ big := by
  have := G_le big l I (K - 1)
  unfold C
  split <;> omega
theorem same_more : ∀ (k : Nat) (u : List UInt8) (hk : k < u.length), k ≤ Sq.same u → (k + 1 ≤ Sq.same u ↔ u[k]'hk = u[0]'(by omega))
  | 0, x :: r, _, _ => by have := Sq.same_pos x r; simp; exact this
  | k + 1, [x], h, _ => by simp at h
  | k + 1, x :: y :: r, h, hs => by
    simp only [Sq.same] at hs ⊢
    split at hs
    · rename_i e
      subst e
      have ih := same_more k (x :: r) (by simpa using h) (by omega)
      simp only [List.getElem_cons_succ, List.getElem_cons_zero, if_true] at ih ⊢
      rw [← ih]
      omega
    · rename_i e
      rw [if_neg e]
      have hk0 : k = 0 := by omega
      subst hk0
      simp only [List.getElem_cons_succ, List.getElem_cons_zero]
      constructor
      · omega
      · intro hh; exact absurd hh.symm e
theorem Rn_more (s : ByteArray) (I K : Nat) (h2 : K < I) (h3 : I ≤ s.size) (h4 : K ≤ Rn s.data.toList I) : (K + 1 ≤ Rn s.data.toList I ↔ s[I - K - 1]'(by omega) = s[I - 1]'(by omega)) := by
  have hl : s.data.toList.length = s.size := (Lib.size_eq s).symm
  have hu : (U s.data.toList I).length = I := by simp only [U, List.length_reverse, List.length_take]; omega
  have := same_more K (U s.data.toList I) (by omega) h4
  unfold Rn
  rw [this]
  have g : ∀ (j : Nat) (hj : j < I), (U s.data.toList I)[j]'(by omega) = s[I - 1 - j]'(by omega) := by
    intro j hj
    have e : min I s.data.toList.length - 1 - j = I - 1 - j := by omega
    simp only [U, List.getElem_reverse, List.getElem_take, List.length_take, e, Array.getElem_toList]
    rfl
  rw [g K h2, g 0 (by omega)]
  have e : I - 1 - K = I - K - 1 := by omega
  simp only [e, Nat.sub_zero]
theorem Rn_pos (l : List UInt8) (I : Nat) (h1 : 1 ≤ I) (h2 : I ≤ l.length) : 1 ≤ Rn l I ∧ Rn l I ≤ I := by
  have h := Sq.same_le (U l I)
  have hu : (U l I).length = I := by simp only [U, List.length_reverse, List.length_take]; omega
  unfold Rn
  cases hc : U l I with
  | nil => rw [hc] at hu; simp at hu; omega
  | cons x r => have := Sq.same_pos x r; rw [hc] at h hu; exact ⟨this, by omega⟩
theorem F_is (big : Nat) (l : List UInt8) (I : Nat) (h1 : 1 ≤ I) (h2 : I ≤ l.length) : F big l I = G big l I (min I 128) := by
  have hu : (U l I).length = I := by simp only [U, List.length_reverse, List.length_take]; omega
  have hd := U_drop l I 1 h1 h2
  unfold F G
  cases hc : U l I with
  | nil => rw [hc] at hu; simp at hu; omega
  | cons x r =>
    rw [hc] at hd hu
    simp only [List.drop_succ_cons, List.drop_zero] at hd
    simp only [List.length_cons] at hu
    rw [Sq.few_cons, hu, hd]
end Go.Proofs.YtpibpdpedjinhaaDoor
