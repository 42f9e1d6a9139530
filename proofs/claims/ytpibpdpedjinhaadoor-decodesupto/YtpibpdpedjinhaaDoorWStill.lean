/- The walk of the verifier's book.still: where every list that was written down is full of its mark it answers true. -/
import Derived.Test.YtpibpdpedjinhaaDoorWBookItem
namespace Go.Proofs.YtpibpdpedjinhaaDoor
open Go.RowKit Go.Joins

theorem row_cell {W wx : World} {b e k g cap l : Nat} {xs : List Value} (h : W.ownsRow b e 1 (.slice (some ⟨g, 0, none⟩) l cap) k xs) (hb : Below W.heap.size W wx) {j : Nat} {u : Value} (hj : xs[j]? = some u) : wx.cell? ⟨g, j, none⟩ = some u := by
  have h1 := h.cells (g := g) rfl j u hj
  rw [addr_add'] at h1
  exact (hb.cell (p := ⟨g, j, none⟩) (own_lt h rfl).2).trans h1

set_option maxRecDepth 100000 in
set_option maxHeartbeats 4000000 in
theorem still_any (W : World) (kb B0 N : Nat) (es : List E) (hbook : Book W kb B0 N es) (hes : es.length ≤ 134217728) :
    Calls Tryd.prog 14 #[.pointer (some ⟨kb, 0, none⟩)] W fun e W' => e = .returned (.bool true) ∧ Below W.heap.size W W' := by
  obtain ⟨vi, vm, ⟨hbk, hkb, hvi, hvm⟩, hrd⟩ := hbook
  obtain ⟨ai, ci, rfl⟩ := owns_slice hvi
  obtain ⟨am, cm, rfl⟩ := owns_slice hvm
  have hkl := (Array.getElem?_eq_some_iff.1 hbk).1
  have hfx : ∀ wx : World, Below W.heap.size W wx → wx.cell? ⟨kb, 1, none⟩ = some (.slice ai es.length ci) ∧ wx.cell? ⟨kb, 2, none⟩ = some (.slice none 0 0) ∧ wx.cell? ⟨kb, 3, none⟩ = some (.slice none 0 0) ∧ wx.cell? ⟨kb, 4, none⟩ = some (.slice none 0 0) ∧ wx.cell? ⟨kb, 5, none⟩ = some (.slice am es.length cm) := by
    intro wx hb
    have h1 := (hb.block kb hkl).trans hbk
    exact ⟨by rw [Lib.cell_of_heap h1]; rfl, by rw [Lib.cell_of_heap h1]; rfl, by rw [Lib.cell_of_heap h1]; rfl, by rw [Lib.cell_of_heap h1]; rfl, by rw [Lib.cell_of_heap h1]; rfl⟩
  have Hfx : Hid _ := hfx
  have Hv : Hid _ := And.intro hvi (And.intro hvm hrd)
  clear hfx hvi hvm hrd hbk
  obtain ⟨Ln, hLn⟩ : ∃ Ln, es.length = Ln := ⟨_, rfl⟩
  rw [hLn] at Hfx hes
  go_enter Tryd.func14, Tryd.ntmps14
  go_wp2_with fail
  go_loopg [3] Ln (fun g v wx => ∃ k : Nat, k ≤ Ln ∧ v = .int .i64 k ∧ g = Ln - k ∧ Below W.heap.size W wx)
  case atStart => exact ⟨0, Nat.zero_le _, rfl, rfl, Below.refl _ _⟩
  case round =>
    obtain ⟨k, hk, rfl, rfl, hb⟩ := hrel
    obtain ⟨c1, c2, c3, c4, c5⟩ := Hfx.out wr hb
    by_cases hlt : k < Ln
    · have hlt' : (k : Int) < (Ln : Int) := by omega
      obtain ⟨hvi, hvm, hrd⟩ := Hv.out
      have hke : k < es.length := by omega
      obtain ⟨gi, ci', hsi⟩ := owns_shape hvi (by omega)
      obtain ⟨gm, cm', hsm⟩ := owns_shape hvm (by omega)
      simp only [Value.slice.injEq, true_and] at hsi hsm
      obtain ⟨rfl, rfl⟩ := hsi
      obtain ⟨rfl, rfl⟩ := hsm
      obtain ⟨e, he⟩ : ∃ e : E, es[k] = e := ⟨_, rfl⟩
      have hmem : e ∈ es := by rw [← he]; exact List.getElem_mem hke
      have hx1 : (es.map E.v)[k]? = some (.slice e.a e.len e.cap) := by rw [List.getElem?_map, List.getElem?_eq_getElem hke, he]; rfl
      have hx2 : (es.map (fun e => Value.int .i64 e.mark))[k]? = some (.int .i64 e.mark) := by rw [List.getElem?_map, List.getElem?_eq_getElem hke, he]; rfl
      have hcx : ∀ wx : World, Below W.heap.size W wx → wx.cell? ⟨gi, k, none⟩ = some (.slice e.a e.len e.cap) ∧ wx.cell? ⟨gm, k, none⟩ = some (.int .i64 e.mark) := fun wx hbx => ⟨row_cell hvi hbx hx1, row_cell hvm hbx hx2⟩
      have hre := hrd e hmem
      have Hcx : Hid _ := hcx
      have Hre : Hid _ := hre
      have hshort := e.short
      obtain ⟨el, hel⟩ : ∃ el, e.len = el := ⟨_, rfl⟩
      rw [hel] at Hcx hshort
      clear hvi hvm hrd hx1 hx2 hcx hre he hmem
      go_wp2_with fail
      obtain ⟨V, rfl⟩ : ∃ V : World, V = wr := ⟨_, rfl⟩
      go_loopg [4] el (fun g v wx => ∃ j : Nat, j ≤ el ∧ v = .int .i64 j ∧ g = el - j ∧ Below W.heap.size W wx)
      case atStart => exact ⟨0, Nat.zero_le _, rfl, rfl, hb⟩
      case round =>
        obtain ⟨j, hj, rfl, rfl, hb2⟩ := hrel
        obtain ⟨d1, d2, d3, d4, d5⟩ := Hfx.out wr hb2
        obtain ⟨r1, r2⟩ := Hcx.out wr hb2
        by_cases hjl : j < el
        · have hjl' : (j : Int) < (el : Int) := by omega
          rcases Hre.out with h0 | ⟨ge, cur, hea, hhe, hall⟩
          · omega
          · obtain ⟨x0, x1, x2⟩ := hall j (by omega)
            have hge := (Array.getElem?_eq_some_iff.1 hhe).1
            have hhw := (hb2.block ge hge).trans hhe
            rw [hea] at r1
            have y0 : wr.cell? ⟨ge, j * 3, none⟩ = some (.bool false) := by rw [Lib.cell_of_heap hhw]; exact x0
            have y1 : wr.cell? ⟨ge, j * 3 + 1, none⟩ = some (.string (markB e.mark)) := by rw [Lib.cell_of_heap hhw]; exact x1
            have y2 : wr.cell? ⟨ge, j * 3 + 2, none⟩ = some (.slice none 0 0) := by rw [Lib.cell_of_heap hhw]; exact x2
            obtain ⟨MB, hMB⟩ : ∃ MB : ByteArray, markB e.mark = MB := ⟨_, rfl⟩
            have hword := word_any e.mark
            rw [hMB] at y1 hword
            obtain ⟨em, hem⟩ : ∃ em : Nat, e.mark = em := ⟨_, rfl⟩
            rw [hem] at r2 hword
            have Hword : Hid _ := hword
            clear hall hhe hhw x0 x1 x2 hMB hword
            go_upto_region 8 with fail
            obtain ⟨Y, hY⟩ : ∃ Y : World, Y = wr.alloc (.cells #[.bool false, .string MB, .slice none 0 0] 24) := ⟨_, rfl⟩
            have hYb : Below wr.heap.size wr Y := by rw [hY]; exact (Below.refl _ _).alloc (Nat.le_refl _) _
            have hYx : Y.heap[wr.heap.size]? = some (.cells #[.bool false, .string MB, .slice none 0 0] 24 (0, 0)) := by rw [hY]; exact heap_alloc_new _ _
            have hYs : Y.heap.size = wr.heap.size + 1 := by rw [hY]; simp
            rw [← hY]
            have hYW : Below W.heap.size W Y := hb2.trans (hYb.mono hb2.size)
            have hS : ∀ U : World, Below Y.heap.size Y U → U.cell? ⟨wr.heap.size, 0, none⟩ = some (.bool false) ∧ U.cell? ⟨wr.heap.size, 1, none⟩ = some (.string MB) ∧ U.cell? ⟨wr.heap.size, 2, none⟩ = some (.slice none 0 0) ∧ U.cell? ⟨kb, 5, none⟩ = some (.slice (some ⟨gm, 0, none⟩) Ln cm) ∧ U.cell? ⟨gm, k, none⟩ = some (.int .i64 em) := by
              intro U hU
              have hUx := (hU.block wr.heap.size (by omega)).trans hYx
              have hUW : Below W.heap.size W U := hYW.trans (hU.mono hYW.size)
              refine ⟨by rw [Lib.cell_of_heap hUx]; rfl, by rw [Lib.cell_of_heap hUx]; rfl, by rw [Lib.cell_of_heap hUx]; rfl, (Hfx.out U hUW).2.2.2.2, ?_⟩
              rw [← hem]
              exact (Hcx.out U hUW).2
            obtain ⟨s0, s1, s2, s3, s4⟩ := hS Y (Below.refl _ _)
            have HS : Hid _ := hS
            clear hY hS y0 y1 y2 r1 r2 d1 d2 d3 d4 d5
            go_region_held3 (fun w' => w'.cell? ⟨wr.heap.size, 0, none⟩ = some (.bool false) ∧ w'.cell? ⟨wr.heap.size, 1, none⟩ = some (.string MB) ∧ w'.cell? ⟨wr.heap.size, 2, none⟩ = some (.slice none 0 0) ∧ w'.cell? ⟨kb, 5, none⟩ = some (.slice (some ⟨gm, 0, none⟩) Ln cm) ∧ w'.cell? ⟨gm, k, none⟩ = some (.int .i64 em)) (first | go_keep | exact HS.out _ (((Below.refl _ Y).drew).trans hb3))
              ((go_at_call 21; refine (Hword.out _).mono ?_; rintro e w3 ⟨rfl, hb3⟩))
            all_goals
              go_wp2_with fail
              go_roundg (el - (j + 1))
              case measure => omega
              case rel => exact ⟨j + 1, by omega, by go_num, rfl, hYW.trans ((((Below.refl _ Y).drew).trans hb3).mono hYW.size)⟩
        · obtain rfl : j = el := by omega
          have hjl' : ¬ (j : Int) < (j : Int) := by omega
          go_wp2_with fail
          go_roundg (Ln - (k + 1))
          case measure => omega
          case rel => exact ⟨k + 1, by omega, by go_num, rfl, hb2⟩
    · obtain rfl : k = Ln := by omega
      have hlt' : ¬ (k : Int) < (k : Int) := by omega
      go_wp2_with fail
      obtain ⟨V, rfl⟩ : ∃ V : World, V = wr := ⟨_, rfl⟩
      go_loopg [6] 1 (fun _ v wx => v = .int .i64 0 ∧ wx = V)
      case atStart => exact ⟨rfl, rfl⟩
      case round =>
        obtain ⟨rfl, hwx⟩ := hrel
        obtain rfl : V = wr := hwx.symm
        go_wp2_with fail
        go_loopg [8] 1 (fun _ v wx => v = .int .i64 0 ∧ wx = V)
        case atStart => exact ⟨rfl, rfl⟩
        case round =>
          obtain ⟨rfl, hwx⟩ := hrel
          obtain rfl : V = wr := hwx.symm
          go_wp2_with fail
          go_loopg [10] 1 (fun _ v wx => v = .int .i64 0 ∧ wx = V)
          case atStart => exact ⟨rfl, rfl⟩
          case round =>
            obtain ⟨rfl, hwx⟩ := hrel
            obtain rfl : V = wr := hwx.symm
            go_wp2_with fail
            go_ret
            exact ⟨rfl, hb⟩
end Go.Proofs.YtpibpdpedjinhaaDoor
