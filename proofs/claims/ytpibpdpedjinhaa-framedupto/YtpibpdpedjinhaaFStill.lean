/- The walk of the verifier's book.still, where the book holds lists of frames: where every list that was written down is full of its mark it answers true. -/
import Derived.Test.YtpibpdpedjinhaaFFrame
namespace Go.Proofs.Ytpibpdpedjinhaa.Fr
open Go.RowKit Go.Joins

set_option maxRecDepth 100000 in
set_option maxHeartbeats 4000000 in
theorem still_any (W : World) (kb B0 N : Nat) (es : List E) (hbook : Book W kb B0 N es) (hes : es.length ≤ 134217728) :
    Calls Try.prog 12 #[.pointer (some ⟨kb, 0, none⟩)] W fun e W' => e = .returned (.bool true) ∧ Below W.heap.size W W' := by
  obtain ⟨vi, vm, ⟨hbk, hkb, hvi, hvm⟩, hrd⟩ := hbook
  obtain ⟨ai, ci, rfl⟩ := owns_slice hvi
  obtain ⟨am, cm, rfl⟩ := owns_slice hvm
  have hkl := (Array.getElem?_eq_some_iff.1 hbk).1
  have hfx : ∀ wx : World, Below W.heap.size W wx → wx.cell? ⟨kb, 1, none⟩ = some (.slice none 0 0) ∧ wx.cell? ⟨kb, 2, none⟩ = some (.slice none 0 0) ∧ wx.cell? ⟨kb, 3, none⟩ = some (.slice ai es.length ci) ∧ wx.cell? ⟨kb, 4, none⟩ = some (.slice none 0 0) ∧ wx.cell? ⟨kb, 7, none⟩ = some (.slice am es.length cm) := by
    intro wx hb
    have h1 := (hb.block kb hkl).trans hbk
    exact ⟨by rw [Lib.cell_of_heap h1]; rfl, by rw [Lib.cell_of_heap h1]; rfl, by rw [Lib.cell_of_heap h1]; rfl, by rw [Lib.cell_of_heap h1]; rfl, by rw [Lib.cell_of_heap h1]; rfl⟩
  have Hfx : Hid _ := hfx
  have Hv : Hid _ := And.intro hvi (And.intro hvm hrd)
  clear hfx hvi hvm hrd hbk
  obtain ⟨Ln, hLn⟩ : ∃ Ln, es.length = Ln := ⟨_, rfl⟩
  rw [hLn] at Hfx hes
  obtain ⟨c1, c2, c3, c4, c5⟩ := Hfx.out W (Below.refl _ _)
  go_enter Try.func12, Try.ntmps12
  go_wp2_with fail
  go_loopg [3] 1 (fun _ v wx => v = .int .i64 0 ∧ wx = W)
  case atStart => exact ⟨rfl, rfl⟩
  case round =>
    obtain ⟨rfl, hwx⟩ := hrel
    obtain rfl : W = wr := hwx.symm
    go_wp2_with fail
    go_loopg [6] 1 (fun _ v wx => v = .int .i64 0 ∧ wx = W)
    case atStart => exact ⟨rfl, rfl⟩
    case round =>
      obtain ⟨rfl, hwx⟩ := hrel
      obtain rfl : W = wr := hwx.symm
      go_wp2_with fail
      clear c1 c2 c3 c4 c5
      go_loopg [8] Ln (fun g v wx => ∃ k : Nat, k ≤ Ln ∧ v = .int .i64 k ∧ g = Ln - k ∧ Below W.heap.size W wx)
      case atStart => exact ⟨0, Nat.zero_le _, rfl, rfl, Below.refl _ _⟩
      case round =>
        obtain ⟨k, hk, rfl, rfl, hb⟩ := hrel
        obtain ⟨c1, c2, c3, c4, c5⟩ := Hfx.out wr hb
        by_cases hlt : k < Ln
        · have hlt' : (k : Int) < (Ln : Int) := by omega
          obtain ⟨hvi, hvm, hrd⟩ := Hv.out
          have hke : k < es.length := by omega
          obtain ⟨gi, ci', hsi⟩ := owns_shape hvi (by omega)
          obtain ⟨gm, cm', hsm⟩ := owns_shape hvm (by omega)
          simp only [Value.slice.injEq, true_and] at hsi hsm
          obtain ⟨rfl, rfl⟩ := hsi
          obtain ⟨rfl, rfl⟩ := hsm
          obtain ⟨e, he⟩ : ∃ e : E, es[k] = e := ⟨_, rfl⟩
          have hmem : e ∈ es := by rw [← he]; exact List.getElem_mem hke
          have hx1 : (es.map E.v)[k]? = some (.slice e.a e.len e.cap) := by rw [List.getElem?_map, List.getElem?_eq_getElem hke, he]; rfl
          have hx2 : (es.map (fun e => Value.int .i64 e.mark))[k]? = some (.int .i64 e.mark) := by rw [List.getElem?_map, List.getElem?_eq_getElem hke, he]; rfl
          have hcx : ∀ wx : World, Below W.heap.size W wx → wx.cell? ⟨gi, k, none⟩ = some (.slice e.a e.len e.cap) ∧ wx.cell? ⟨gm, k, none⟩ = some (.int .i64 e.mark) := fun wx hbx => ⟨row_cell hvi hbx hx1, row_cell hvm hbx hx2⟩
          have hre := hrd e hmem
          have Hcx : Hid _ := hcx
          have Hre : Hid _ := hre
          have hshort := e.short
          obtain ⟨el, hel⟩ : ∃ el, e.len = el := ⟨_, rfl⟩
          rw [hel] at Hcx hshort
          clear hvi hvm hrd hx1 hx2 hcx hre he hmem
          go_wp2_with fail
          obtain ⟨V, rfl⟩ : ∃ V : World, V = wr := ⟨_, rfl⟩
          go_loopg [9] el (fun g v wx => ∃ j : Nat, j ≤ el ∧ v = .int .i64 j ∧ g = el - j ∧ Below W.heap.size W wx)
          case atStart => exact ⟨0, Nat.zero_le _, rfl, rfl, hb⟩
          case round =>
            obtain ⟨j, hj, rfl, rfl, hb2⟩ := hrel
            obtain ⟨d1, d2, d3, d4, d5⟩ := Hfx.out wr hb2
            obtain ⟨r1, r2⟩ := Hcx.out wr hb2
            by_cases hjl : j < el
            · have hjl' : (j : Int) < (el : Int) := by omega
              rcases Hre.out with h0 | ⟨ge, cur, hea, hhe, hall⟩
              · omega
              · obtain ⟨x0, x1, x2, x3⟩ := hall j (by omega)
                have hge := (Array.getElem?_eq_some_iff.1 hhe).1
                rw [hea] at r1
                obtain ⟨MB, hMB⟩ : ∃ MB : ByteArray, markB e.mark = MB := ⟨_, rfl⟩
                have hword := word_any e.mark
                rw [hMB] at x2 hword
                obtain ⟨em, hem⟩ : ∃ em : Nat, e.mark = em := ⟨_, rfl⟩
                rw [hem] at r2 hword
                have Hword : Hid _ := hword
                have hS : ∀ U : World, Below wr.heap.size wr U → U.cell? ⟨kb, 3, none⟩ = some (.slice (some ⟨gi, 0, none⟩) Ln ci) ∧ U.cell? ⟨gi, k, none⟩ = some (.slice (some ⟨ge, 0, none⟩) el e.cap) ∧ U.cell? ⟨ge, j * 4, none⟩ = some (.int .u32 0) ∧ U.cell? ⟨ge, j * 4 + 1, none⟩ = some (.int .u16 0) ∧ U.cell? ⟨ge, j * 4 + 2, none⟩ = some (.string MB) ∧ U.cell? ⟨ge, j * 4 + 3, none⟩ = some (.bool false) ∧ U.cell? ⟨kb, 7, none⟩ = some (.slice (some ⟨gm, 0, none⟩) Ln cm) ∧ U.cell? ⟨gm, k, none⟩ = some (.int .i64 em) := by
                  intro U hU
                  have hUW : Below W.heap.size W U := hb2.trans (hU.mono hb2.size)
                  have hhw := (hUW.block ge hge).trans hhe
                  obtain ⟨p1, p2⟩ := Hcx.out U hUW
                  rw [hea] at p1
                  rw [hem] at p2
                  exact ⟨(Hfx.out U hUW).2.2.1, p1, by rw [Lib.cell_of_heap hhw]; exact x0, by rw [Lib.cell_of_heap hhw]; exact x1, by rw [Lib.cell_of_heap hhw]; exact x2, by rw [Lib.cell_of_heap hhw]; exact x3, (Hfx.out U hUW).2.2.2.2, p2⟩
                obtain ⟨s0, s1, s2, s3, s4, s5, s6, s7⟩ := hS wr (Below.refl _ _)
                have HS : Hid _ := hS
                clear hall hhe x0 x1 x2 x3 hMB hword hS d1 d2 d4 r1 r2
                go_upto_region 24 with fail
                go_region_held3 (fun w' => w'.cell? ⟨kb, 3, none⟩ = some (.slice (some ⟨gi, 0, none⟩) Ln ci) ∧ w'.cell? ⟨gi, k, none⟩ = some (.slice (some ⟨ge, 0, none⟩) el e.cap) ∧ w'.cell? ⟨ge, j * 4, none⟩ = some (.int .u32 0) ∧ w'.cell? ⟨ge, j * 4 + 1, none⟩ = some (.int .u16 0) ∧ w'.cell? ⟨ge, j * 4 + 2, none⟩ = some (.string MB) ∧ w'.cell? ⟨ge, j * 4 + 3, none⟩ = some (.bool false) ∧ w'.cell? ⟨kb, 7, none⟩ = some (.slice (some ⟨gm, 0, none⟩) Ln cm) ∧ w'.cell? ⟨gm, k, none⟩ = some (.int .i64 em)) (first | go_keep | exact HS.out _ (((Below.refl _ wr).drew).trans hb3))
                  ((go_at_call 22; refine (Hword.out _).mono ?_; rintro e w3 ⟨rfl, hb3⟩))
                all_goals
                  go_wp2_with fail
                  go_roundg (el - (j + 1))
                  case measure => omega
                  case rel => exact ⟨j + 1, by omega, by go_num, rfl, hb2.trans ((((Below.refl _ wr).drew).trans hb3).mono hb2.size)⟩
            · obtain rfl : j = el := by omega
              have hjl' : ¬ (j : Int) < (j : Int) := by omega
              go_wp2_with fail
              go_roundg (Ln - (k + 1))
              case measure => omega
              case rel => exact ⟨k + 1, by omega, by go_num, rfl, hb2⟩
        · obtain rfl : k = Ln := by omega
          have hlt' : ¬ (k : Int) < (k : Int) := by omega
          go_wp2_with fail
          obtain ⟨V, rfl⟩ : ∃ V : World, V = wr := ⟨_, rfl⟩
          go_loopg [10] 1 (fun _ v wx => v = .int .i64 0 ∧ wx = V)
          case atStart => exact ⟨rfl, rfl⟩
          case round =>
            obtain ⟨rfl, hwx⟩ := hrel
            obtain rfl : V = wr := hwx.symm
            go_wp2_with fail
            go_ret
            exact ⟨rfl, hb⟩
end Go.Proofs.Ytpibpdpedjinhaa.Fr
