/- The walk of tributaryref.Least: it gives Sq.few of the bytes turned round, for strings of at most 2^20 bytes. -/
import Derived.Test.YtpibpdpedjinhaaWRefSpread
import Derived.Lib.SmallJoins
import Derived.Deep.QuietTactic
import Derived.BigQuiet
import Derived.Deep.DeepCutAuto
namespace Go.Proofs.Ytpibpdpedjinhaa
open Go.RowKit Go.Joins

/-- a row of ints of the call's own -/
def Ints (B : Nat) (zs : List Int) (w : World) : Prop := w.heap[B]? = some (.cells (zs.map (Value.int .i64)).toArray 3 (0, 0))
theorem Ints.cell {B : Nat} {zs : List Int} {w : World} (h : Ints B zs w) (j : Nat) (hj : j < zs.length) : w.cell? ⟨B, j, none⟩ = some (.int .i64 (zs.getD j 0)) := by
  rw [Lib.cell_of_heap h j]
  simp [hj]
theorem Ints.free {B : Nat} {zs : List Int} {w : World} (h : Ints B zs w) (j : Nat) : w.frozen? ⟨B, j, none⟩ = false := Lib.frozen_of_heap h j
theorem Ints.set {B : Nat} {zs : List Int} {w : World} (h : Ints B zs w) (j : Nat) (v : Int) : Ints B (zs.set j v) (w.setCell ⟨B, j, none⟩ (.int .i64 v)) := by
  have := block_setCell h (i := j) (.int .i64 v)
  rw [Ints, this]
  congr 2
  apply Array.ext'
  simp [List.map_set]
theorem made_ints (n : Nat) : madeCells #[Value.int .i64 0] n = ((List.replicate n (0 : Int)).map (Value.int .i64)).toArray := by
  apply Array.ext
  · simp [madeCells]
  · intro i h1 h2
    simp [madeCells]
    rw [Nat.mod_one]
    rfl
theorem info_int : (Try.prog.info? 3).map (fun i => (i.zero, i.size, i.bytes)) = some (some (.int .i64 0), 1, 8) := by kernel_rfl

/-- the beginning of so many bytes, turned round -/
def U (l : List UInt8) (j : Nat) : List UInt8 := (l.take j).reverse
/-- the fewest bytes for it -/
def F (big : Nat) (l : List UInt8) (j : Nat) : Nat := Sq.few big (U l j)
theorem F_le (big : Nat) (l : List UInt8) (j : Nat) : F big l j ≤ 2 * j := by
  have := Sq.few_small big (U l j)
  have h2 : (U l j).length ≤ j := by simp [U]; omega
  unfold F
  omega
def G (big : Nat) (l : List UInt8) (I K : Nat) : Nat := Sq.inner big (Sq.same (U l I)) (Sq.fewTab big (U l (I - 1))) K
def Rn (l : List UInt8) (I : Nat) : Nat := Sq.same (U l I)

theorem below_drewN {B : Nat} {a w : World} (h : Below B a w) (n : Nat) : Below B a (w.drewN n) := h.trans ⟨rfl, rfl, rfl, Nat.le_refl _, fun _ _ => rfl⟩
theorem idx_run (u : World) (s : ByteArray) (i : Int) (j : Nat) (hj : j < s.size) (e : i = (j : Int)) : (Instr.index 9 (.string s) (.int .i64 i)).run Try.prog u = .ok (.int .u8 (s[j].toNat : Int)) u := by
  subst e
  rw [run_index_string u _ s .i64 _ Try.underlying9, dif_pos (by omega)]
  simp
theorem U_drop (l : List UInt8) (m d : Nat) (hd : d ≤ m) (hm : m ≤ l.length) : (U l m).drop d = U l (m - d) := by
  unfold U
  rw [List.drop_reverse, List.take_take, List.length_take]
  congr 2
  omega
theorem T_get (big : Nat) (l : List UInt8) (I K : Nat) (h1 : 1 ≤ K) (h2 : K ≤ I) (h3 : I ≤ l.length) : (Sq.fewTab big (U l (I - 1))).getD (K - 1) 0 = F big l (I - K) := by
  have hl : (U l (I - 1)).length = I - 1 := by simp [U]; omega
  rw [Sq.fewTab_drop big (K - 1) _ (by omega), U_drop l _ _ (by omega) (by omega)]
  unfold F
  congr 2
  omega
/-- the first half of a round -/
def C (big : Nat) (l : List UInt8) (I K : Nat) : Nat := if F big l (I - K) + 1 + K < G big l I (K - 1) then F big l (I - K) + 1 + K else G big l I (K - 1)
theorem G_step (big : Nat) (l : List UInt8) (I K : Nat) (h1 : 1 ≤ K) (h2 : K ≤ I) (h3 : I ≤ l.length) :
    G big l I K = if K ≤ Rn l I ∧ 2 ≤ K ∧ F big l (I - K) + 2 < C big l I K then F big l (I - K) + 2 else C big l I K := by
  obtain ⟨k, rfl⟩ : ∃ k, K = k + 1 := ⟨K - 1, by omega⟩
  have t := T_get big l I (k + 1) h1 h2 h3
  unfold C Rn
  rw [Nat.add_sub_cancel] at t ⊢
  unfold G
  rw [Sq.inner, Sq.cand, t]
theorem G_le (big : Nat) (l : List UInt8) (I : Nat) : ∀ K : Nat, G big l I K ≤ big
  | 0 => Nat.le_refl _
  | K + 1 => by
    have ih := G_le big l I K
    unfold G at ih ⊢
    rw [Sq.inner]
    have c := Sq.cand_le (Sq.fewTab big (U l (I - 1))) K (Sq.inner big (Sq.same (U l I)) (Sq.fewTab big (U l (I - 1))) K)
    split <;> omega
theorem C_le (big : Nat) (l : List UInt8) (I K : Nat) : C big l I K ≤ big := by
  have := G_le big l I (K - 1)
  unfold C
  split <;> omega
theorem same_more : ∀ (k : Nat) (u : List UInt8) (hk : k < u.length), k ≤ Sq.same u → (k + 1 ≤ Sq.same u ↔ u[k]'hk = u[0]'(by omega))
  | 0, x :: r, _, _ => by have := Sq.same_pos x r; simp; exact this
  | k + 1, [x], h, _ => by simp at h
  | k + 1, x :: y :: r, h, hs => by
    simp only [Sq.same] at hs ⊢
    split at hs
    · rename_i e
      subst e
      have ih := same_more k (x :: r) (by simpa using h) (by omega)
      simp only [List.getElem_cons_succ, List.getElem_cons_zero, if_true] at ih ⊢
      rw [← ih]
      omega
    · rename_i e
      rw [if_neg e]
      have hk0 : k = 0 := by omega
      subst hk0
      simp only [List.getElem_cons_succ, List.getElem_cons_zero]
      constructor
      · omega
      · intro hh; exact absurd hh.symm e
theorem Rn_more (s : ByteArray) (I K : Nat) (h2 : K < I) (h3 : I ≤ s.size) (h4 : K ≤ Rn s.data.toList I) : (K + 1 ≤ Rn s.data.toList I ↔ s[I - K - 1]'(by omega) = s[I - 1]'(by omega)) := by
  have hl : s.data.toList.length = s.size := (Lib.size_eq s).symm
  have hu : (U s.data.toList I).length = I := by simp only [U, List.length_reverse, List.length_take]; omega
  have := same_more K (U s.data.toList I) (by omega) h4
  unfold Rn
  rw [this]
  have g : ∀ (j : Nat) (hj : j < I), (U s.data.toList I)[j]'(by omega) = s[I - 1 - j]'(by omega) := by
    intro j hj
    have e : min I s.data.toList.length - 1 - j = I - 1 - j := by omega
    simp only [U, List.getElem_reverse, List.getElem_take, List.length_take, e, Array.getElem_toList]
    rfl
  rw [g K h2, g 0 (by omega)]
  have e : I - 1 - K = I - K - 1 := by omega
  simp only [e, Nat.sub_zero]
theorem Rn_pos (l : List UInt8) (I : Nat) (h1 : 1 ≤ I) (h2 : I ≤ l.length) : 1 ≤ Rn l I ∧ Rn l I ≤ I := by
  have h := Sq.same_le (U l I)
  have hu : (U l I).length = I := by simp only [U, List.length_reverse, List.length_take]; omega
  unfold Rn
  cases hc : U l I with
  | nil => rw [hc] at hu; simp at hu; omega
  | cons x r => have := Sq.same_pos x r; rw [hc] at h hu; exact ⟨this, by omega⟩
theorem F_is (big : Nat) (l : List UInt8) (I : Nat) (h1 : 1 ≤ I) (h2 : I ≤ l.length) : F big l I = G big l I (min I 128) := by
  have hu : (U l I).length = I := by simp only [U, List.length_reverse, List.length_take]; omega
  have hd := U_drop l I 1 h1 h2
  unfold F G
  cases hc : U l I with
  | nil => rw [hc] at hu; simp at hu; omega
  | cons x r =>
    rw [hc] at hd hu
    simp only [List.drop_succ_cons, List.drop_zero] at hd
    simp only [List.length_cons] at hu
    rw [Sq.few_cons, hu, hd]

set_option maxRecDepth 100000 in
set_option maxHeartbeats 1000000 in
theorem least_any (s : ByteArray) (w : World) (hs : s.size ≤ 1048576) :
    Calls Try.prog 8 #[.string s] w fun e w' => e = .returned (.int .i64 (Sq.few (4 * s.size) s.data.toList.reverse)) ∧ Below w.heap.size w w' := by
  obtain ⟨i0, hi, hz0, hz1, hz2⟩ := info_parts info_int
  have hmk : ∀ u : World, (Instr.makeSlice 32 (.int .i64 ((s.size : Int) + 1)) (.int .i64 ((s.size : Int) + 1))).run Try.prog u =
      .ok (.slice (some ⟨u.heap.size, 0, none⟩) (s.size + 1) (s.size + 1)) (u.alloc (.cells (madeCells #[.int .i64 0] (s.size + 1)) 3)) := fun u => by
    have h := run_make (P := Try.prog) u 32 3 i0 (.int .i64 0) Try.underlying32 hi hz0 .i64 .i64 ((s.size : Int) + 1) ((s.size : Int) + 1) (by omega) (Int.le_refl _) (by rw [hz2]; omega) (by omega)
    have e : ((s.size : Int) + 1).toNat = s.size + 1 := by omega
    rw [e] at h
    simpa [hz1, Value.cells] using h
  clear hi hz0 hz1 hz2
  have hI0 : Ints w.heap.size (List.replicate (s.size + 1) 0) (w.alloc (.cells (madeCells #[.int .i64 0] (s.size + 1)) 3)) := by
    rw [Ints, made_ints]
    exact heap_alloc_new _ _
  have hb0 : Below w.heap.size w (w.alloc (.cells (madeCells #[.int .i64 0] (s.size + 1)) 3)) := (Below.refl _ w).alloc (Nat.le_refl _) _
  go_enter Try.func8, Try.ntmps8
  go_wp2_with fail
  go_loopg [4] s.size (fun g i wr => ∃ (I : Nat) (zs : List Int), 1 ≤ I ∧ I ≤ s.size + 1 ∧ i = .int .i64 I ∧ g = s.size + 1 - I ∧ zs.length = s.size + 1 ∧ (∀ j, j < I → zs.getD j 0 = F (4 * s.size) s.data.toList j) ∧ Ints w.heap.size zs wr ∧ Below w.heap.size w wr)
  case atStart =>
    refine ⟨1, _, Nat.le_refl _, by omega, rfl, ?_, ?_, ?_, hI0, hb0⟩
    · omega
    · simp
    · intro j hj
      obtain rfl : j = 0 := by omega
      simp [F, U, Sq.few, Sq.fewTab]
  case round =>
    obtain ⟨I, zs, h1, h2, rfl, rfl, hzl, hzs, hI, hb⟩ := hrel
    clear hmk hI0 hb0
    by_cases hlt : (I : Int) ≤ s.size
    · have hfr := hI.free
      have hlen : s.data.toList.length = s.size := (Lib.size_eq s).symm
      have Hlen : Hid _ := hlen
      have Hzs : Hid _ := hzs
      have Hzl : Hid _ := hzl
      have hcI := hI.cell I (by omega)
      clear hlen hzs hzl
      go_wp2_with fail
      clear hfr hcI
      go_loopg [5, 6] (min I 128) (fun g a k wx => ∃ (K : Nat) (zs : List Int), 1 ≤ K ∧ K ≤ min I 128 + 1 ∧ k = .int .i64 K ∧ a = .int .i64 (min K (Rn s.data.toList I) : Nat) ∧ g = min I 128 + 1 - K ∧ zs.length = s.size + 1 ∧ (∀ j, j < I → zs.getD j 0 = F (4 * s.size) s.data.toList j) ∧ zs.getD I 0 = G (4 * s.size) s.data.toList I (K - 1) ∧ Ints w.heap.size zs wx ∧ Below w.heap.size w wx)
      case atStart =>
        refine ⟨1, _, Nat.le_refl _, by omega, rfl, ?_, by omega, ?_, ?_, ?_, hI.set _ _, hb.setCell (Nat.le_refl _) _⟩
        · have := (Rn_pos s.data.toList I h1 (by rw [Hlen.out]; omega)).1
          rw [show min 1 (Rn s.data.toList I) = 1 from by omega]
          rfl
        · rw [List.length_set]; exact Hzl.out
        · intro j hj
          rw [← Hzs.out j hj]
          simp only [List.getD_eq_getElem?_getD, List.getElem?_set]
          rw [if_neg (by omega)]
        · have := Hzl.out
          simp only [List.getD_eq_getElem?_getD, List.getElem?_set]
          rw [if_pos trivial, if_pos (by omega)]
          simp [G, Sq.inner]
      case round =>
        obtain ⟨K, zs, hK1, hK2, rfl, rfl, rfl, hzl, hzs, hzI, hI, hb⟩ := hrel
        have hRn := Rn_pos s.data.toList I h1 (by rw [Hlen.out]; omega)
        by_cases hk : K ≤ I ∧ K ≤ 128
        · obtain ⟨hk1, hk2⟩ := hk
          have hk1' : (K : Int) ≤ (I : Int) := by omega
          have hk2' : (K : Int) ≤ 128 := by omega
          have hx : F (4 * s.size) s.data.toList (I - K) ≤ 2 * s.size := by have := F_le (4 * s.size) s.data.toList (I - K); omega
          have hy := G_le (4 * s.size) s.data.toList I (K - 1)
          have hC : C (4 * s.size) s.data.toList I K = if F (4 * s.size) s.data.toList (I - K) + 1 + K < G (4 * s.size) s.data.toList I (K - 1) then F (4 * s.size) s.data.toList (I - K) + 1 + K else G (4 * s.size) s.data.toList I (K - 1) := rfl
          have hG := G_step (4 * s.size) s.data.toList I K hK1 hk1 (by rw [Hlen.out]; omega)
          have hCl := C_le (4 * s.size) s.data.toList I K
          have c1 := hI.cell (I - K) (by omega)
          rw [hzs (I - K) (by omega)] at c1
          have c2 := hI.cell I (by omega)
          rw [hzI] at c2
          generalize hxF : F (4 * s.size) s.data.toList (I - K) = x at *
          have HxF : Hid _ := hxF
          clear hxF
          generalize G (4 * s.size) s.data.toList I (K - 1) = y at *
          generalize C (4 * s.size) s.data.toList I K = y1 at *
          have HC : Hid _ := hC
          have HG : Hid _ := hG
          have Hzs2 : Hid _ := hzs
          have Hzl2 : Hid _ := hzl
          have HzI : Hid _ := hzI
          clear hC hG hzs hzl hzI
          have hfr := hI.free
          go_wp2_with fail
          go_quiet (fail)
          go_upto_if 45 with fail
          go_cut [] (fun wx => ∃ (zs : List Int), zs.length = s.size + 1 ∧ (∀ j, j < I → zs.getD j 0 = F (4 * s.size) s.data.toList j) ∧ zs.getD I 0 = (y1 : Nat) ∧ Ints w.heap.size zs wx ∧ Below w.heap.size w wx)
          case first =>
            by_cases hc : (x : Int) + 1 + (K : Int) < (y : Int)
            · go_wp2
              go_meet
              have e := HC.out
              rw [if_pos (by omega)] at e
              subst e
              have hzl := Hzl2.out
              refine ⟨zs.set I ((x : Int) + 1 + (K : Int)), by rw [List.length_set]; exact hzl, ?_, ?_, hI.set I _, (below_drewN hb _).setCell (Nat.le_refl _) _⟩
              · intro j hj
                rw [← Hzs2.out j hj]
                simp only [List.getD_eq_getElem?_getD, List.getElem?_set]
                rw [if_neg (by omega)]
              · simp only [List.getD_eq_getElem?_getD, List.getElem?_set]
                rw [if_pos trivial, if_pos (by omega)]
                simp
            · go_wp2
              go_meet
              have e := HC.out
              rw [if_neg (by omega)] at e
              subst e
              exact ⟨zs, Hzl2.out, Hzs2.out, HzI.out, hI, below_drewN hb _⟩
          case rest =>
            obtain ⟨zs1, hzl1, hzs1, hzI1, hI1, hb1⟩ := hcut
            clear c1 c2 hfr hI hb
            have c1 := hI1.cell (I - K) (by omega)
            rw [hzs1 (I - K) (by omega), HxF.out] at c1
            have c2 := hI1.cell I (by omega)
            rw [hzI1] at c2
            have Hzs3 : Hid _ := hzs1
            have Hzl3 : Hid _ := hzl1
            have HzI1 : Hid _ := hzI1
            clear hzs1 hzl1 hzI1 Hzs2 Hzl2 HzI HC
            have hfr := hI1.free
            obtain ⟨A, hA⟩ : ∃ A : Nat, A = min K (Rn s.data.toList I) := ⟨_, rfl⟩
            rw [← hA]
            have hAK : A ≤ K := by omega
            have HA : Hid _ := hA
            clear hA
            go_wp2_with fail
            go_cut [78] (fun b wx => b = .bool (decide (K ≤ Rn s.data.toList I ∧ 2 ≤ K ∧ x + 2 < y1)) ∧ Ints w.heap.size zs1 wx ∧ Below w.heap.size w wx)
            case first =>
              by_cases hKA : K ≤ Rn s.data.toList I
              · have hq : ((K : Int) == (A : Int)) = true := by have := HA.out; simp; omega
                by_cases hK2' : 2 ≤ K
                · have hK3 : 2 ≤ (K : Int) := by omega
                  go_quiet (fail)
                  go_wp2_with fail
                  go_meet
                  refine ⟨?_, hI1, below_drewN hb1 _⟩
                  congr 1
                  by_cases hx2 : (x : Int) + 2 < y1
                  · rw [decide_eq_true hx2, decide_eq_true (by omega)]
                  · rw [decide_eq_false hx2, decide_eq_false (by omega)]
                · have hK3 : decide (2 ≤ (K : Int)) = false := by simp; omega
                  go_quiet (fail)
                  go_wp2_with fail
                  go_meet
                  refine ⟨?_, hI1, below_drewN hb1 _⟩
                  rw [decide_eq_false (by omega)]
              · have hq : ((K : Int) == (A : Int)) = false := by have := HA.out; simp; omega
                go_quiet (fail)
                go_wp2_with fail
                go_meet
                refine ⟨?_, hI1, below_drewN hb1 _⟩
                rw [decide_eq_false (by omega)]
            case rest =>
              obtain ⟨rfl, hI2, hb2⟩ := hcut
              clear c1 c2 hfr hI1 hb1
              have c1 := hI2.cell (I - K) (by have := Hzl3.out; omega)
              rw [Hzs3.out (I - K) (by omega), HxF.out] at c1
              have c2 := hI2.cell I (by have := Hzl3.out; omega)
              have hfr := hI2.free
              have hG := HG.out
              generalize hbb : decide (K ≤ Rn s.data.toList I ∧ 2 ≤ K ∧ x + 2 < y1) = bb
              have Hbb : Hid _ := hbb
              clear hbb hG
              go_upto_if 78 with fail
              go_cut [] (fun wx => ∃ (zs : List Int), zs.length = s.size + 1 ∧ (∀ j, j < I → zs.getD j 0 = F (4 * s.size) s.data.toList j) ∧ zs.getD I 0 = G (4 * s.size) s.data.toList I K ∧ Ints w.heap.size zs wx ∧ Below w.heap.size w wx)
              case first =>
                cases bb with
                | true =>
                  go_wp2
                  go_meet
                  have e := HG.out
                  rw [if_pos (of_decide_eq_true Hbb.out)] at e
                  have hzl := Hzl3.out
                  refine ⟨zs1.set I ((x : Int) + 2), by rw [List.length_set]; exact hzl, ?_, ?_, hI2.set I _, hb2.setCell (Nat.le_refl _) _⟩
                  · intro j hj
                    rw [← Hzs3.out j hj]
                    simp only [List.getD_eq_getElem?_getD, List.getElem?_set]
                    rw [if_neg (by omega)]
                  · simp only [List.getD_eq_getElem?_getD, List.getElem?_set]
                    rw [if_pos trivial, if_pos (by omega), e]
                    simp
                | false =>
                  go_wp2
                  go_meet
                  have e := HG.out
                  rw [if_neg (of_decide_eq_false Hbb.out)] at e
                  exact ⟨zs1, Hzl3.out, Hzs3.out, by rw [e]; exact HzI1.out, hI2, hb2⟩
              case rest =>
                obtain ⟨zs2, hzl4, hzs4, hzI4, hI4, hb4⟩ := hcut
                clear c1 c2 hfr hI2 hb2 Hzs3 Hzl3 HzI1 HG Hbb
                have Hzs4 : Hid _ := hzs4
                have Hzl4 : Hid _ := hzl4
                have HzI4 : Hid _ := hzI4
                clear hzs4 hzl4 hzI4
                by_cases hKA : K ≤ Rn s.data.toList I
                · have hq : ((K : Int) == (A : Int)) = true := by have := HA.out; simp; omega
                  by_cases hKI : K < I
                  · have hKI' : (K : Int) < (I : Int) := by omega
                    have hmore := Rn_more s I K hKI (by omega) hKA
                    have Hmore : Hid _ := hmore
                    clear hmore
                    have hx1 : ∀ u : World, (Instr.index 9 (.string s) (.int .i64 ((I : Int) - (K : Int) - 1))).run Try.prog u = .ok (.int .u8 ((s[I - K - 1]'(by omega)).toNat : Int)) u := fun u => idx_run u s _ _ (by omega) (by omega)
                    have hx2 : ∀ u : World, (Instr.index 9 (.string s) (.int .i64 ((I : Int) - 1))).run Try.prog u = .ok (.int .u8 ((s[I - 1]'(by omega)).toNat : Int)) u := fun u => idx_run u s _ _ (by omega) (by omega)
                    go_wp2_with fail
                    go_quiet (fail)
                    go_wp2_with fail
                    · have hb : (((s[I - K - 1]'(by omega)).toNat : Int) == ((s[I - 1]'(by omega)).toNat : Int)) = true := by assumption
                      have hm : K + 1 ≤ Rn s.data.toList I := Hmore.out.2 (UInt8.toNat_inj.1 (by have := eq_of_beq hb; omega))
                      go_roundg (min I 128 + 1 - (K + 1))
                      case measure => omega
                      case rel => exact ⟨K + 1, zs2, by omega, by omega, by go_num, by have := HA.out; rw [show min (K + 1) (Rn s.data.toList I) = A + 1 from by omega]; go_num, rfl, Hzl4.out, Hzs4.out, HzI4.out, hI4, below_drewN hb4 _⟩
                    · have hb : (((s[I - K - 1]'(by omega)).toNat : Int) == ((s[I - 1]'(by omega)).toNat : Int)) = false := by assumption
                      have hm : ¬ K + 1 ≤ Rn s.data.toList I := fun h => by have := Hmore.out.1 h; rw [this] at hb; simp at hb
                      go_roundg (min I 128 + 1 - (K + 1))
                      case measure => omega
                      case rel => exact ⟨K + 1, zs2, by omega, by omega, by go_num, by have := HA.out; rw [show min (K + 1) (Rn s.data.toList I) = A from by omega], rfl, Hzl4.out, Hzs4.out, HzI4.out, hI4, below_drewN hb4 _⟩
                  · have hKI' : decide ((K : Int) < (I : Int)) = false := by simp; omega
                    go_wp2_with fail
                    go_quiet (fail)
                    go_wp2_with fail
                    go_roundg (min I 128 + 1 - (K + 1))
                    case measure => omega
                    case rel => exact ⟨K + 1, zs2, by omega, by omega, by go_num, by rw [show min (K + 1) (Rn s.data.toList I) = A from by have := HA.out; omega], rfl, Hzl4.out, Hzs4.out, HzI4.out, hI4, below_drewN hb4 _⟩
                · have hq : ((K : Int) == (A : Int)) = false := by have := HA.out; simp; omega
                  go_wp2_with fail
                  go_quiet (fail)
                  go_wp2_with fail
                  go_roundg (min I 128 + 1 - (K + 1))
                  case measure => omega
                  case rel => exact ⟨K + 1, zs2, by omega, by omega, by go_num, by rw [show min (K + 1) (Rn s.data.toList I) = A from by have := HA.out; omega], rfl, Hzl4.out, Hzs4.out, HzI4.out, hI4, below_drewN hb4 _⟩
        · have hk' : K = min I 128 + 1 := by omega
          have Hk' : Hid _ := hk'
          have Hzs2 : Hid _ := hzs
          have Hzl2 : Hid _ := hzl
          have HzI : Hid _ := hzI
          have hfin := F_is (4 * s.size) s.data.toList I h1 (by rw [Hlen.out]; omega)
          have Hfin : Hid _ := hfin
          clear hk' hzs hzl hzI hfin
          rcases (show ((I : Int) < (K : Int)) ∨ ((K : Int) ≤ (I : Int) ∧ 128 < (K : Int)) from by omega) with hk1 | ⟨hk1, hk2⟩
          · go_wp2
            go_roundg (s.size + 1 - (I + 1))
            case measure => omega
            case rel =>
              refine ⟨I + 1, zs, by omega, by omega, by go_num, rfl, Hzl2.out, ?_, hI, hb⟩
              intro j hj
              by_cases hjI : j < I
              · exact Hzs2.out j hjI
              · obtain rfl : j = I := by omega
                rw [HzI.out, Hfin.out, Hk'.out, Nat.add_sub_cancel]
          · go_wp2
            go_roundg (s.size + 1 - (I + 1))
            case measure => omega
            case rel =>
              refine ⟨I + 1, zs, by omega, by omega, by go_num, rfl, Hzl2.out, ?_, hI, hb⟩
              intro j hj
              by_cases hjI : j < I
              · exact Hzs2.out j hjI
              · obtain rfl : j = I := by omega
                rw [HzI.out, Hfin.out, Hk'.out, Nat.add_sub_cancel]
    · have hcell := hI.cell s.size (by omega)
      rw [hzs s.size (by omega)] at hcell
      have e : F (4 * s.size) s.data.toList s.size = Sq.few (4 * s.size) s.data.toList.reverse := by
        unfold F U
        rw [Lib.size_eq, List.take_length]
      rw [e] at hcell
      generalize hr : Sq.few (4 * s.size) s.data.toList.reverse = r at *
      have Hr : Hid _ := hr
      clear e hzs hr
      go_wp2
      go_ret
      rw [Hr.out]
      exact ⟨rfl, hb⟩
end Go.Proofs.Ytpibpdpedjinhaa
