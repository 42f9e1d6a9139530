/- The walk of frame.first: what it finds is Fr.one. -/
import Derived.Test.YtpibpdpedjinhaaFNum
namespace Go.Proofs.Ytpibpdpedjinhaa.Fr
open Go.RowKit Go.Joins

/-- a frame and how many bytes it has, or none, as three results -/
def fv : Option (F × Nat) → Value
  | none => .tuple #[.agg #[.int .u32 0, .int .u16 0, .string ⟨#[]⟩, .bool false], .int .i64 0, .bool false]
  | some x => .tuple #[.agg #[.int .u32 x.1.chan, .int .u16 x.1.num, .string ⟨x.1.data.toArray⟩, .bool x.1.last], .int .i64 x.2, .bool true]
theorem below_set4 {B : Nat} {a w : World} (h : Below B a w) (b : Nat) (hB : B ≤ b) (x y z u : Value) : Below B a ((((w.setCell ⟨b, 0, none⟩ x).setCell ⟨b, 1, none⟩ y).setCell ⟨b, 2, none⟩ z).setCell ⟨b, 3, none⟩ u) :=
  (((h.setCell hB _).setCell hB _).setCell hB _).setCell hB _

theorem behind3 {w w1 w2 w3 w4 : World} {o : Obj} (hb : Below w.heap.size w w1) (hz : w1.heap[w.heap.size]? = some o) (h2 : Below w1.drew.heap.size w1.drew w2) (h3 : Below w2.heap.size w2 w3) (h4 : Below w3.heap.size w3 w4) : Below w.heap.size w w4 ∧ w4.heap[w.heap.size]? = some o := by
  have e : Below w1.heap.size w1 w1.drew := (Below.refl _ _).drew
  have e2 := e.trans (h2.mono e.size)
  have e3 := e2.trans (h3.mono e2.size)
  have e4 := e3.trans (h4.mono e3.size)
  exact ⟨hb.trans (e4.mono hb.size), (e4.block _ (Array.getElem?_eq_some_iff.1 hz).1).trans hz⟩

set_option maxRecDepth 100000 in
set_option maxHeartbeats 2000000 in
theorem first_any (s : ByteArray) (w : World) (hs : s.size ≤ 16777216) :
    Calls Try.prog 34 #[.string s] w fun e w' => e = .returned (fv (one s.data.toList 0)) ∧ Below w.heap.size w w' := by
  have hl := Lib.size_eq s
  obtain ⟨R, hR⟩ : ∃ R, one s.data.toList 0 = R := ⟨_, rfl⟩
  rw [hR]
  have HR : Hid _ := hR
  have hb1 : ∀ a : Obj, Below w.heap.size w (w.alloc a) := fun a => (Below.refl _ w).alloc (Nat.le_refl _) _
  have Hb1 : Hid _ := hb1
  clear hR hb1
  by_cases h8 : s.size < 8
  · obtain rfl : R = none := HR.out.symm.trans (one_near (by omega))
    have h8' : (s.size : Int) < 8 := by omega
    clear hl
    go_enter Try.func34, Try.ntmps34
    go_wp2_with fail
    exact bodyPost_ret (v := fv none) (by simp [results, Try.results34, go_sem, fv]) rfl ⟨rfl, Hb1.out _⟩
  · have h8' : ¬ (s.size : Int) < 8 := by omega
    have e6 : big (s.extract 6 8).data.toList 0 (s.extract 6 8).size = big s.data.toList 6 2 := by
      rw [ext_list, show (s.extract 6 8).size = 2 from by simp [ByteArray.size_extract]; omega]
      exact big_cut s.data.toList 6 2
    have e4 : big (s.extract 4 6).data.toList 0 (s.extract 4 6).size = big s.data.toList 4 2 := by
      rw [ext_list, show (s.extract 4 6).size = 2 from by simp [ByteArray.size_extract]; omega]
      exact big_cut s.data.toList 4 2
    have e0 : big (s.extract 0 4).data.toList 0 (s.extract 0 4).size = big s.data.toList 0 4 := by
      rw [ext_list, show (s.extract 0 4).size = 4 from by simp [ByteArray.size_extract]; omega]
      exact big_cut s.data.toList 0 4
    have n6 := fun u : World => number_any (s.extract 6 8) u (by simp [ByteArray.size_extract]; omega)
    have n4 := fun u : World => number_any (s.extract 4 6) u (by simp [ByteArray.size_extract]; omega)
    have n0 := fun u : World => number_any (s.extract 0 4) u (by simp [ByteArray.size_extract]; omega)
    rw [e6] at n6
    rw [e4] at n4
    rw [e0] at n0
    clear e6 e4 e0
    have l6 := big_lt s.data.toList 6 2
    have l0 := big_lt s.data.toList 0 4
    have l4 := big_lt s.data.toList 4 2
    simp only [Nat.reducePow] at l6 l0 l4
    have hone : s.size ≠ 8 → one s.data.toList 0 = _ := fun h => one_far (s := s.data.toList) (p := 0) (by omega)
    simp only [Nat.zero_add] at hone
    generalize hN : big s.data.toList 6 2 = N at *
    generalize hC4 : big s.data.toList 0 4 = C4 at *
    generalize hC2 : big s.data.toList 4 2 = C2 at *
    have N6 : Hid _ := n6
    have N4 : Hid _ := n4
    have N0 : Hid _ := n0
    have Hone : Hid _ := hone
    have Hl : Hid _ := hl
    clear n6 n4 n0 hone hl hN hC4 hC2
    go_enter Try.func34, Try.ntmps34
    go_wp2_with fail
    obtain ⟨X, hX⟩ : ∃ X : World, X = w.alloc (.cells #[.int .u32 0, .int .u16 0, .string ⟨#[]⟩, .bool false] 42) := ⟨_, rfl⟩
    have hXb : Below w.heap.size w X := by rw [hX]; exact Hb1.out _
    have hX0 : X.heap[w.heap.size]? = some (.cells #[.int .u32 0, .int .u16 0, .string ⟨#[]⟩, .bool false] 42 (0, 0)) := by rw [hX]; exact heap_alloc_new _ _
    rw [← hX]
    clear hX
    refine (N6.out X).mono ?_
    rintro e w1 ⟨rfl, hb1⟩
    have hz := (hb1.block _ (Array.getElem?_eq_some_iff.1 hX0).1).trans hX0
    have hb := hXb.trans (hb1.mono hXb.size)
    clear hb1 hX0 hXb X
    have z0 : w1.cell? ⟨w.heap.size, 0, none⟩ = some (.int .u32 0) := by rw [Lib.cell_of_heap hz]; rfl
    have z1 : w1.cell? ⟨w.heap.size, 1, none⟩ = some (.int .u16 0) := by rw [Lib.cell_of_heap hz]; rfl
    have z2 : w1.cell? ⟨w.heap.size, 2, none⟩ = some (.string ⟨#[]⟩) := by rw [Lib.cell_of_heap hz]; rfl
    have z3 : w1.cell? ⟨w.heap.size, 3, none⟩ = some (.bool false) := by rw [Lib.cell_of_heap hz]; rfl
    have fz := Lib.frozen_of_heap hz
    by_cases hn : s.size < 9 + N
    · have hn' : (s.size : Int) < 8 + (N : Int) + 1 := by omega
      obtain rfl : R = none := HR.out.symm.trans (by
        by_cases h : s.size = 8
        · exact one_near (by rw [← Hl.out]; omega)
        · rw [Hone.out h, if_pos (by rw [← Hl.out]; exact hn)])
      have Hb : Hid _ := hb
      clear hb hz
      go_wp2_with fail
      exact bodyPost_ret (v := fv none) (by simp [results, Try.results34, go_sem, fv, z0, z1, z2, z3]) rfl ⟨rfl, below_set4 Hb.out _ (Nat.le_refl _) _ _ _ _⟩
    · have hn' : ¬ (s.size : Int) < 8 + (N : Int) + 1 := by omega
      have hci : 8 + N < s.size := by omega
      have hx8 := fun u => idx_run u s (8 + (N : Int)) (8 + N) hci (by omega)
      have hg8 := getD_byte s (8 + N) hci
      obtain ⟨c, hc⟩ : ∃ c : Nat, s[8 + N].toNat = c := ⟨_, rfl⟩
      have hcl : c < 256 := by rw [← hc]; exact UInt8.toNat_lt _
      rw [hc] at hx8
      have hon2 := Hone.out (by omega)
      rw [if_neg (by rw [← Hl.out]; omega), hg8, hc] at hon2
      have Hon2 : Hid _ := hon2
      clear hg8 hc hon2 Hone
      by_cases hc1 : 1 < c
      · have hc1' : (1 : Int) < (c : Int) := by omega
        obtain rfl : R = none := HR.out.symm.trans (by rw [Hon2.out, if_pos hc1])
        have Hb : Hid _ := hb
        clear hb hz
        go_wp2_with fail
        exact bodyPost_ret (v := fv none) (by simp [results, Try.results34, go_sem, fv, z0, z1, z2, z3]) rfl ⟨rfl, below_set4 Hb.out _ (Nat.le_refl _) _ _ _ _⟩
      · have hc1' : ¬ (1 : Int) < (c : Int) := by omega
        obtain ⟨lb, hlb⟩ : ∃ lb : Bool, ((c : Int) == 1) = lb := ⟨_, rfl⟩
        have hlb2 : (c == 1) = lb := by
          rw [← hlb]
          rcases (by omega : c = 0 ∨ c = 1) with rfl | rfl <;> rfl
        obtain ⟨D, hD⟩ : ∃ D : ByteArray, s.extract 8 (8 + N) = D := ⟨_, rfl⟩
        have hDl : (⟨((s.data.toList.take (8 + N)).drop 8).toArray⟩ : ByteArray) = D := by rw [← hD, ← ext_list]
        have hDs : D.size ≤ 16777216 := by rw [← hD]; simp [ByteArray.size_extract]; omega
        have hRf : fv R = .tuple #[.agg #[.int .u32 C4, .int .u16 C2, .string D, .bool lb], .int .i64 (8 + (N : Int) + 1), .bool true] := by
          rw [← HR.out, Hon2.out, if_neg hc1, hlb2]
          simp only [fv, hDl]
          congr 5
          omega
        have NC : Hid _ := fun u : World => clone_any D u hDs
        have HRf : Hid _ := hRf
        have Hb : Hid _ := hb
        have Hz : Hid _ := hz
        have hw16 : IntKind.u16.wrap (C2 : Int) = (C2 : Int) := by rw [IntKind.wrap_u16]; omega
        have hb0 : (0 : Int) ≤ 8 := by omega
        have hb1 : (8 : Int) ≤ 8 + (N : Int) := by omega
        have hb2 : 8 + (N : Int) ≤ (s.size : Int) := by omega
        have hD2 : s.extract (8 : Int).toNat (8 + (N : Int)).toNat = D := by rw [← hD]; congr 1
        have hslice : ∀ u : World, (Instr.slice 9 (.string s) (some (.int .i64 8)) (some (.int .i64 (8 + (N : Int)))) none).run Try.prog u = .ok (.string D) u := fun u => by rw [run_slice_string u _ s .i64 .i64 _ _ Try.underlying9 hb0 hb1 hb2, hD2]
        have hwS : IntKind.i64.wrap (8 + (N : Int) + 1 - 1) = 8 + (N : Int) := by rw [IntKind.wrap_i64]; omega
        have hwS2 : IntKind.i64.wrap (8 + (N : Int)) = 8 + (N : Int) := by rw [IntKind.wrap_i64]; omega
        have hwS3 : 8 + (N : Int) + 1 - 1 = 8 + (N : Int) := by omega
        have hs4 : (4 : Int) ≤ (s.size : Int) := by omega
        have hs6 : (6 : Int) ≤ (s.size : Int) := by omega
        clear hb hz hRf hlb2 hDl hDs Hon2
        go_upto_region 6 with fail
        have hb := Hb.out
        have hz := Hz.out
        clear z0 z1 z2 z3 fz Hb Hz
        go_region_held3 (fun _ => True) (trivial) (first | (go_at_call 38; first | ((with_reducible refine Calls.mono (N0.out _) ?_); rintro e w2 ⟨rfl, hb2⟩) | ((with_reducible refine Calls.mono (N4.out _) ?_); rintro e w3 ⟨rfl, hb3⟩)) | (go_at_call 39; ((with_reducible refine Calls.mono (NC.out _) ?_); rintro e w4 ⟨rfl, hb4⟩; obtain ⟨HB', hz4⟩ := behind3 hb hz hb2 hb3 hb4; have HB : Hid (Below w.heap.size w w4) := HB'; have z0 : w4.cell? ⟨w.heap.size, 0, none⟩ = some (.int .u32 0) := (by rw [Lib.cell_of_heap hz4]; rfl); have z1 : w4.cell? ⟨w.heap.size, 1, none⟩ = some (.int .u16 0) := (by rw [Lib.cell_of_heap hz4]; rfl); have z2 : w4.cell? ⟨w.heap.size, 2, none⟩ = some (.string ⟨#[]⟩) := (by rw [Lib.cell_of_heap hz4]; rfl); have z3 : w4.cell? ⟨w.heap.size, 3, none⟩ = some (.bool false) := (by rw [Lib.cell_of_heap hz4]; rfl); have fz := Lib.frozen_of_heap hz4; clear hz4 HB')))
        all_goals
          go_wp2_with fail
          exact bodyPost_ret (v := fv R) (by rw [HRf.out]; simp [results, Try.results34, go_sem, z0, z1, z2, z3]) rfl ⟨rfl, below_set4 HB.out _ (Nat.le_refl _) _ _ _ _⟩
end Go.Proofs.Ytpibpdpedjinhaa.Fr
