/- An item whose lists are all its own, each in a block of its own, with nothing said of what stands behind their ends. -/
import Derived.Test.YtpibpdpedjinhaaDoorWOwn2
namespace Go.Proofs.YtpibpdpedjinhaaDoor
open Go.RowKit Go.Joins

/-- the three cells of an item that was made: its lists lie in blocks from lo on, below hi, each in one of its own -/
def Tr (w : World) : Nat → Nat → Nat → Value → Value → Value → Im.It → Prop
  | 0, _, _, _, _, _, _ => False
  | n + 1, lo, hi, c0, c1, c2, i => (c0 = .bool i.list ∧ c1 = .string ⟨i.bytes.toArray⟩) ∧ ∃ (xs : List Value) (L H : Nat → Nat), w.ownsRow lo 24 3 c2 i.kids.length xs ∧ (∀ g, c2.ownBlock = some g → g < hi) ∧
      (∀ j, j < i.kids.length → lo ≤ L j ∧ L j ≤ H j ∧ H j ≤ hi ∧ (∀ g, c2.ownBlock = some g → g < L j ∨ H j ≤ g)) ∧ (∀ a b, a < b → b < i.kids.length → H a ≤ L b) ∧
      ∀ (j : Nat) (hj : j < i.kids.length), ∃ d0 d1 d2, xs[j * 3]? = some d0 ∧ xs[j * 3 + 1]? = some d1 ∧ xs[j * 3 + 2]? = some d2 ∧ Tr w n (L j) (H j) d0 d1 d2 (i.kids[j])
/-- a row of such items -/
def Row (w : World) (n lo hi : Nat) (v : Value) (ks : List Im.It) : Prop := ∃ (xs : List Value) (L H : Nat → Nat), w.ownsRow lo 24 3 v ks.length xs ∧ (∀ g, v.ownBlock = some g → g < hi) ∧
      (∀ j, j < ks.length → lo ≤ L j ∧ L j ≤ H j ∧ H j ≤ hi ∧ (∀ g, v.ownBlock = some g → g < L j ∨ H j ≤ g)) ∧ (∀ a b, a < b → b < ks.length → H a ≤ L b) ∧
      ∀ (j : Nat) (hj : j < ks.length), ∃ d0 d1 d2, xs[j * 3]? = some d0 ∧ xs[j * 3 + 1]? = some d1 ∧ xs[j * 3 + 2]? = some d2 ∧ Tr w n (L j) (H j) d0 d1 d2 (ks[j])
theorem Tr.of_row {w : World} {n lo hi : Nat} {v : Value} {i : Im.It} (h : Row w n lo hi v i.kids) : Tr w (n + 1) lo hi (.bool i.list) (.string ⟨i.bytes.toArray⟩) v i := ⟨⟨rfl, rfl⟩, h⟩
theorem Tr.row {w : World} {n lo hi : Nat} {c0 c1 v : Value} {i : Im.It} (h : Tr w (n + 1) lo hi c0 c1 v i) : Row w n lo hi v i.kids := h.2

theorem ownsRow_kept {w w' : World} {base e size n : Nat} {v : Value} {xs : List Value} (h : w.ownsRow base e size v n xs) (hk : ∀ g, v.ownBlock = some g → w'.heap[g]? = w.heap[g]?) : w'.ownsRow base e size v n xs := by
  obtain ⟨h1, h2⟩ := h
  refine ⟨h1, ?_⟩
  rcases h2 with h2 | ⟨g, cap, cur, hv, hg, hh, r⟩
  · exact .inl h2
  · exact .inr ⟨g, cap, cur, hv, hg, (hk g (by rw [hv]; rfl)).trans hh, r⟩
theorem Tr.kept {w w' : World} : ∀ (n lo hi : Nat) (c0 c1 c2 : Value) (i : Im.It), (∀ k, lo ≤ k → k < hi → w'.heap[k]? = w.heap[k]?) → Tr w n lo hi c0 c1 c2 i → Tr w' n lo hi c0 c1 c2 i
  | 0, _, _, _, _, _, _, _, h => h
  | n + 1, lo, hi, c0, c1, c2, i, hk, h => by
    obtain ⟨h0, xs, L, H, h1, h2, h3, h4, h5⟩ := h
    refine ⟨h0, xs, L, H, ownsRow_kept h1 (fun g hg => hk g (own_lt h1 hg).1 (h2 g hg)), h2, h3, h4, fun j hj => ?_⟩
    obtain ⟨d0, d1, d2, e0, e1, e2, e3⟩ := h5 j hj
    have := h3 j hj
    exact ⟨d0, d1, d2, e0, e1, e2, Tr.kept n (L j) (H j) d0 d1 d2 _ (fun k a b => hk k (by omega) (by omega)) e3⟩
theorem Row.kept {w w' : World} {n lo hi : Nat} {v : Value} {ks : List Im.It} (h : Row w n lo hi v ks) (hk : ∀ k, lo ≤ k → k < hi → w'.heap[k]? = w.heap[k]?) : Row w' n lo hi v ks :=
  (Tr.kept (n + 1) lo hi (.bool true) (.string ⟨#[]⟩) v ⟨true, [], ks⟩ hk ⟨⟨rfl, rfl⟩, h⟩).2
theorem Tr.inn {w : World} {B : Nat} : ∀ (n lo hi : Nat) (c0 c1 c2 : Value) (i : Im.It), hi ≤ B → Tr w n lo hi c0 c1 c2 i → In B w n c0 c1 c2 i
  | 0, _, _, _, _, _, _, _, h => h
  | n + 1, lo, hi, c0, c1, c2, i, hB, h => by
    obtain ⟨⟨h00, h01⟩, xs, L, H, h1, h2, h3, h4, h5⟩ := h
    rcases h1.2 with ⟨rfl, hz⟩ | ⟨g, cap, cur, rfl, hg, hh, hnc, hcm, hcs, htake⟩
    · refine ⟨h00, h01, none, 0, by rw [hz], fun hne => absurd (List.eq_nil_of_length_eq_zero hz) hne⟩
    · refine ⟨h00, h01, some ⟨g, 0, none⟩, cap, rfl, fun _ => ⟨g, 0, rfl, by have := h2 g rfl; omega, fun j hj => ?_⟩⟩
      obtain ⟨d0, d1, d2, e0, e1, e2, e3⟩ := h5 j hj
      have hcell : ∀ (m : Nat) (u : Value), xs[m]? = some u → cur[m]? = some u := by
        intro m u hu
        have hm : m < xs.length := (List.getElem?_eq_some_iff.1 hu).1
        have hl := h1.1
        rw [← htake, List.getElem?_take_of_lt (by omega)] at hu
        simpa using hu
      have := h3 j hj
      refine ⟨d0, d1, d2, ⟨?_, ?_, ?_⟩, Tr.inn n (L j) (H j) d0 d1 d2 _ (by omega) e3⟩
      · rw [Lib.cell_of_heap hh, Nat.zero_add]; exact hcell _ _ e0
      · rw [Lib.cell_of_heap hh, Nat.zero_add]; exact hcell _ _ e1
      · rw [Lib.cell_of_heap hh, Nat.zero_add]; exact hcell _ _ e2
theorem Tr.shape {w : World} {n lo hi : Nat} {c0 c1 c2 : Value} {i : Im.It} (h : Tr w n lo hi c0 c1 c2 i) : ∃ a cap, c0 = .bool i.list ∧ c1 = .string ⟨i.bytes.toArray⟩ ∧ c2 = .slice a i.kids.length cap := by
  cases n with
  | zero => cases h
  | succ n =>
    obtain ⟨⟨h00, h01⟩, xs, L, H, h1, _⟩ := h
    rcases h1.2 with ⟨rfl, hz⟩ | ⟨g, cap, cur, rfl, _⟩
    · exact ⟨none, 0, h00, h01, by rw [hz]⟩
    · exact ⟨_, cap, h00, h01, rfl⟩
theorem ownsRow_low {w : World} {base base' e size n : Nat} {v : Value} {xs : List Value} (h : w.ownsRow base e size v n xs) (hb : base' ≤ base) : w.ownsRow base' e size v n xs := by
  obtain ⟨h1, h2⟩ := h
  refine ⟨h1, ?_⟩
  rcases h2 with h2 | ⟨g, cap, cur, hv, hg, r⟩
  · exact .inl h2
  · exact .inr ⟨g, cap, cur, hv, by omega, r⟩
theorem Row.wider {w : World} {n lo hi lo' hi' : Nat} {v : Value} {ks : List Im.It} (h : Row w n lo hi v ks) (h1 : lo' ≤ lo) (h2 : hi ≤ hi') : Row w n lo' hi' v ks := by
  obtain ⟨xs, L, H, q1, q2, q3, q4, q5⟩ := h
  refine ⟨xs, L, H, ownsRow_low q1 h1, fun g hg => by have := q2 g hg; omega, fun j hj => ?_, q4, q5⟩
  obtain ⟨a1, a2, a3, a4⟩ := q3 j hj
  exact ⟨by omega, a2, by omega, a4⟩
theorem Tr.wider {w : World} {n lo hi lo' hi' : Nat} {c0 c1 c2 : Value} {i : Im.It} (h : Tr w n lo hi c0 c1 c2 i) (h1 : lo' ≤ lo) (h2 : hi ≤ hi') : Tr w n lo' hi' c0 c1 c2 i := by
  cases n with
  | zero => cases h
  | succ n => exact ⟨h.1, Row.wider h.2 h1 h2⟩
theorem Row.none (w : World) (n lo hi : Nat) : Row w n lo hi (.slice none 0 0) [] :=
  ⟨[], fun _ => 0, fun _ => 0, World.ownsRow_nil w lo _ 3, fun g hg => by simp [Value.ownBlock] at hg, fun j hj => by simp at hj, fun _ b _ hb => by simp at hb, fun j hj => by simp at hj⟩
/-- one more item behind a row: it was made since (w to w1), then appended (w3 to w4) -/
theorem Row.step {w w1 w3 w4 : World} {n lo : Nat} {ks : List Im.It} {k : Im.It} {v v' d0 d1 d2 : Value} (hbs : lo ≤ w.heap.size) {xs : List Value} {L H : Nat → Nat} (hown : w.ownsRow lo 24 3 v ks.length xs)
    (hLH : ∀ j, j < ks.length → lo ≤ L j ∧ L j ≤ H j ∧ H j ≤ w.heap.size ∧ (∀ g, v.ownBlock = some g → g < L j ∨ H j ≤ g)) (hord : ∀ a b, a < b → b < ks.length → H a ≤ L b)
    (hkids : ∀ (j : Nat) (hj : j < ks.length), ∃ d0 d1 d2, xs[j * 3]? = some d0 ∧ xs[j * 3 + 1]? = some d1 ∧ xs[j * 3 + 2]? = some d2 ∧ Tr w n (L j) (H j) d0 d1 d2 (ks[j]))
    (hnew : Tr w1 n w.heap.size w1.heap.size d0 d1 d2 k) (hb1 : Below w.heap.size w w1) (hb3 : Below w1.heap.size w1 w3)
    (hown' : w4.ownsRow lo 24 3 v' (ks.length + 1) (xs ++ [d0, d1, d2])) (hgr : w3.grownBy w4 v.ownBlock) (hat : v'.ownBlock = v.ownBlock ∨ ∃ g, v'.ownBlock = some g ∧ w3.heap.size ≤ g) : Row w4 n lo w4.heap.size v' (ks ++ [k]) := by
  have hx := xs_len hown
  have s1 := hb1.size
  have s3 := hb3.size
  have s4 := hgr.size
  have hgl : ∀ g, v.ownBlock = some g → g < w.heap.size := fun g hg => (own_lt hown hg).2
  have hlen : (ks ++ [k]).length = ks.length + 1 := by simp
  refine ⟨xs ++ [d0, d1, d2], fun j => if j < ks.length then L j else w.heap.size, fun j => if j < ks.length then H j else w1.heap.size, by rw [hlen]; exact hown', fun g hg => (own_lt hown' hg).2, ?_, ?_, ?_⟩
  · intro j hj
    by_cases hjk : j < ks.length
    · simp only [if_pos hjk]
      obtain ⟨a1, a2, a3, a4⟩ := hLH j hjk
      refine ⟨a1, a2, by omega, fun g hg => ?_⟩
      rcases hat with e | ⟨g', e, hge⟩
      · rw [e] at hg; exact a4 g hg
      · rw [e] at hg; simp at hg; omega
    · simp only [if_neg hjk]
      refine ⟨hbs, s1, by omega, fun g hg => ?_⟩
      rcases hat with e | ⟨g', e, hge⟩
      · rw [e] at hg; have := hgl g hg; omega
      · rw [e] at hg; simp at hg; omega
  · intro a b hab hb
    rw [hlen] at hb
    by_cases hbk : b < ks.length
    · simp only [if_pos hbk, if_pos (show a < ks.length by omega)]
      exact hord a b hab hbk
    · simp only [if_neg hbk, if_pos (show a < ks.length by omega)]
      exact (hLH a (by omega)).2.2.1
  · intro j hj
    rw [hlen] at hj
    by_cases hjk : j < ks.length
    · obtain ⟨e0, e1, e2, q0, q1, q2, ho⟩ := hkids j hjk
      obtain ⟨a1, a2, a3, a4⟩ := hLH j hjk
      simp only [if_pos hjk]
      rw [List.getElem_append_left hjk]
      refine ⟨e0, e1, e2, ?_, ?_, ?_, Tr.kept n _ _ _ _ _ _ (fun m m1 m2 => ?_) ho⟩
      · rw [List.getElem?_append_left (by omega)]; exact q0
      · rw [List.getElem?_append_left (by omega)]; exact q1
      · rw [List.getElem?_append_left (by omega)]; exact q2
      · rw [hgr.block m (by omega) (fun e => by have := a4 m e.symm; omega), hb3.block m (by omega), hb1.block m (by omega)]
    · obtain rfl : j = ks.length := by omega
      simp only [if_neg hjk]
      rw [List.getElem_append_right (Nat.le_refl _)]
      simp only [Nat.sub_self, List.getElem_cons_zero]
      refine ⟨d0, d1, d2, ?_, ?_, ?_, Tr.kept n _ _ _ _ _ _ (fun m m1 m2 => ?_) hnew⟩
      · rw [List.getElem?_append_right (by omega), hx]; simp
      · rw [List.getElem?_append_right (by omega), hx, show ks.length * 3 + 1 - ks.length * 3 = 1 from by omega]; rfl
      · rw [List.getElem?_append_right (by omega), hx, show ks.length * 3 + 2 - ks.length * 3 = 2 from by omega]; rfl
      · rw [hgr.block m (by omega) (fun e => by have := hgl m e.symm; omega), hb3.block m (by omega)]
end Go.Proofs.YtpibpdpedjinhaaDoor
