/- From the reading of an item as data to the item as it lies in memory; from the listed table to its cells. -/
import Derived.Test.YtpibpdpedjinhaaDoorRows
import Derived.Test.YtpibpdpedjinhaaDoorWMake2
import Derived.ProofKit
import Derived.OpenShut
import Derived.Deep.Slices
import Derived.Deep.Strs
import Derived.Deep.DeepHandedRow
import Derived.Lib.LaidTab
namespace Go.Proofs.YtpibpdpedjinhaaDoor
open Go.ChangeShapes Go.WideShapes Go.ChangeAt Go.RowKit

theorem cells_item : Tryd.prog.cellsOf 24 = 3 := by kernel_rfl
theorem cells_bool : Tryd.prog.cellsOf 4 = 1 := by kernel_rfl
theorem cells_string : Tryd.prog.cellsOf 9 = 1 := by kernel_rfl
theorem cells_items : Tryd.prog.cellsOf 22 = 1 := by kernel_rfl
theorem cells_u8 : Tryd.prog.cellsOf 5 = 1 := by kernel_rfl

theorem bulk_map {H : Type} (D : Nat → DataW H) (f : Nat → Im.It) (N : Nat) : ∀ (n k : Nat), (∀ j, j < n → Im.wt N (f (k + j)) ≤ Rows.uptoBulk (D (k + j))) → (((List.range' k n).map f).map (Im.wt N)).sum ≤ Rows.uptoBulkAll ((List.range' k n).map D)
  | 0, _, _ => by simp [Rows.uptoBulkAll]
  | n + 1, k, h => by
    have h0 := h 0 (by omega)
    have ih := bulk_map D f N n (k + 1) (fun j hj => by have := h (j + 1) (by omega); rw [show k + (j + 1) = k + 1 + j from by omega] at this; exact this)
    simp only [List.range'_succ, List.map_cons, List.sum_cons, Rows.uptoBulkAll]
    simp only [Nat.add_zero] at h0
    omega
theorem bulk_at {H : Type} (D : Nat → DataW H) : ∀ (n k j : Nat), j < n → Rows.uptoBulk (D (k + j)) ≤ Rows.uptoBulkAll ((List.range' k n).map D)
  | 0, _, _, h => by omega
  | n + 1, k, j, h => by
    simp only [List.range'_succ, List.map_cons, Rows.uptoBulkAll]
    cases j with
    | zero => simp
    | succ j =>
      have := bulk_at D n (k + 1) j (by omega)
      rw [show k + (j + 1) = k + 1 + j from by omega]
      omega

theorem addr_add (b o n : Nat) : (⟨b, o, none⟩ : Addr).add n = ⟨b, o + n, none⟩ := by
  unfold Addr.add
  split
  · rename_i h; subst h; rfl
  · rfl

set_option maxRecDepth 100000 in
/-- AN ITEM, OPENED: what is read as data lies in memory as an item; N: so much it weighs at most -/
theorem open_item {H : Type} {enc : TypeId × Value → H} {W : World} {base : Nat} {sp : Nat → Bool} {held : Bool} : ∀ (N fuel : Nat) (cs : List Value) (x : DataW H × List MemPlace), Rows.uptoBulk x.1 ≤ N → DataW.trod enc Tryd.prog W base sp held fuel 24 cs = some x →
    ∃ c0 c1 c2 i, cs = [c0, c1, c2] ∧ In W.heap.size W N c0 c1 c2 i ∧ Im.wt N i ≤ Rows.uptoBulk x.1
  | 0, fuel, cs, x, hN, h => by
    obtain ⟨y0, y1, y2, n, hx, _⟩ := Go.Deep.trod_struct3 Tryd.underlying24 h
    rw [hx] at hN
    simp [Rows.uptoBulk] at hN
  | N + 1, fuel, cs, x, hN, h => by
    obtain ⟨y0, y1, y2, n, hx, hlen, h0, h1, h2⟩ := Go.Deep.trod_struct3 Tryd.underlying24 h
    rw [cells_item] at hlen
    match cs, hlen with
    | [c0, c1, c2], _ =>
    simp only [cells_bool, cells_string, cells_items] at h0 h1 h2
    obtain ⟨b, hb, rfl⟩ := DataW.trod_bool Tryd.underlying4 h0
    obtain ⟨s, hs, rfl, _⟩ := DataW.trod_string Tryd.underlying9 h1
    simp at hb hs
    subst hb hs
    subst hx
    rcases Go.Deep.open_slice Tryd.underlying22 h2 with ⟨hcs, rfl⟩ | ⟨a, len, cap, m, n', D, Pl, hcs, hba, hlc, hcm, hm, rfl, hel⟩
    · simp at hcs
      subst hcs
      refine ⟨_, _, _, ⟨b, s.data.toList, []⟩, rfl, ⟨rfl, rfl, none, 0, rfl, fun h => absurd rfl h⟩, ?_⟩
      simp [Im.wt, Rows.uptoBulk, Rows.uptoBulkAll]
      try omega
    · simp at hcs
      subst hcs
      have hlm : len ≤ m := by rw [hm]; split <;> omega
      have hbulk : Rows.uptoBulkAll ((List.range len).map D) + s.data.toList.length + 4 ≤ N + 1 := by
        simp only [Rows.uptoBulk, Rows.uptoBulkAll] at hN
        omega
      have hspot : 0 < len → a.spot = none := fun hp => by
        obtain ⟨cs', hc1, _⟩ := hel 0 (by omega)
        rw [cells_item] at hc1
        obtain ⟨_, hl3, hc⟩ := World.cells?_some hc1
        have g0 := hc 0 (by omega)
        rw [List.getElem?_eq_getElem (by omega)] at g0
        simpa [Addr.add] using World.cell?_spot g0
      haveI : Inhabited Im.It := ⟨⟨false, [], []⟩⟩
      have hk : ∀ j, j < len → ∃ k : Im.It, (∃ d0 d1 d2, a.spot = none ∧ a.block < W.heap.size ∧ K3 W a.block (a.off + j * 3) d0 d1 d2 ∧ In W.heap.size W N d0 d1 d2 k) ∧ Im.wt N k ≤ Rows.uptoBulk (D j) := by
        intro j hj
        obtain ⟨cs', hc1, hc2⟩ := hel j (by omega)
        have hbj := bulk_at D len 0 j hj
        rw [← List.range_eq_range', Nat.zero_add] at hbj
        obtain ⟨d0, d1, d2, k, rfl, hin, hwt⟩ := open_item N n' cs' _ (by simp only; omega) hc2
        rw [cells_item] at hc1
        have hc := (World.cells?_some hc1).2.2
        have hblk := World.cells?_block hc1 (by omega)
        have hsp := hspot (by omega)
        obtain ⟨ab, ao, asp⟩ := a
        simp only at hsp
        subst hsp
        have g0 := hc 0 (by omega)
        have g1 := hc 1 (by omega)
        have g2 := hc 2 (by omega)
        rw [addr_add, addr_add] at g0 g1 g2
        rw [addr_add] at hblk
        exact ⟨k, ⟨d0, d1, d2, rfl, hblk, ⟨g0, g1, g2⟩, hin⟩, hwt⟩
      obtain ⟨f, hf⟩ := Go.Deep.choose_lt hk
      have hkl : ((List.range len).map f).length = len := by simp
      have hkg : ∀ (j : Nat) (hj : j < ((List.range len).map f).length), ((List.range len).map f)[j] = f j := fun j hj => by simp
      refine ⟨_, _, _, ⟨b, s.data.toList, (List.range len).map f⟩, rfl, ⟨rfl, rfl, some a, cap, by simp, fun hne => ?_⟩, ?_⟩
      · have hpos : 0 < len := by
          rcases Nat.eq_zero_or_pos len with e | e
          · subst e; simp at hne
          · exact e
        obtain ⟨⟨_, _, _, hsp, hlt, _⟩, _⟩ := hf 0 hpos
        obtain ⟨ab, ao, asp⟩ := a
        simp only at hsp
        subst hsp
        refine ⟨ab, ao, rfl, hlt, fun j hj => ?_⟩
        obtain ⟨⟨d0, d1, d2, _, _, hk3, hin⟩, _⟩ := hf j (by rw [hkl] at hj; exact hj)
        exact ⟨d0, d1, d2, hk3, by rw [hkg j hj]; exact hin⟩
      · have hsum := bulk_map D f N len 0 (fun j hj => by rw [Nat.zero_add]; exact (hf j hj).2)
        rw [← List.range_eq_range'] at hsum
        simp only [Im.wt, Rows.uptoBulk, Rows.uptoBulkAll]
        omega

theorem g_heads : Tryd.prog.globalNamed "tributary/item.heads" = some 0 := by kernel_rfl
theorem g_heads_type : (Tryd.prog.globals[0]?).map (·.type) = some 111 := by kernel_rfl
theorem cells_heads : Tryd.prog.cellsOf 111 = 6 := by kernel_rfl
theorem cells_head : Tryd.prog.cellsOf 100 = 3 := by kernel_rfl

set_option maxRecDepth 100000 in
/-- WHAT THE ROW's LIST GIVES: the cells of the table of heads. -/
theorem heads_of {W : World} (h : laidMet Tryd.prog [("tributary/item.heads", Rows.laid_tributary_item_heads)] W) : Heads W := by
  obtain ⟨ps, ⟨g', t', cs, fuel, p, q, hg', ht', hvar, hd, _, _⟩, _⟩ := h
  obtain rfl := Option.some.inj (g_heads.symm.trans hg')
  obtain rfl := Option.some.inj (g_heads_type.symm.trans ht')
  obtain ⟨xs, m, _, hx, hlen, hxl, hi⟩ := DataW.trod_array Tryd.underlying111 hd
  rw [cells_heads] at hlen
  have hc := fun i => World.var?_cell g_heads hvar i
  obtain ⟨cs⟩ := cs
  match cs, hlen, xs, hxl with
  | [a0, a1, a2, a3, a4, a5], _, [x0, x1], _ =>
  have h0 := hi 0 (by omega)
  have h1 := hi 1 (by omega)
  simp only [cells_head] at h0 h1
  simp only [Rows.laid_tributary_item_heads, Prod.mk.injEq, DataW.agg.injEq, List.map_cons, List.map_nil, List.cons.injEq, and_true] at hx
  obtain ⟨y0, y1, y2, n, hy, _, k0, k1, k2⟩ := Go.Deep.trod_struct3 Tryd.underlying100 h0
  obtain ⟨z0, z1, z2, n', hz, _, l0, l1, l2⟩ := Go.Deep.trod_struct3 Tryd.underlying100 h1
  simp only [cells_bool, cells_u8] at k0 k1 k2 l0 l1 l2
  obtain ⟨b0, e0, rfl⟩ := DataW.trod_bool Tryd.underlying4 k0
  obtain ⟨b1, e1, rfl, _⟩ := DataW.trod_int Tryd.underlying5 k1
  obtain ⟨b2, e2, rfl, _⟩ := DataW.trod_int Tryd.underlying5 k2
  obtain ⟨b3, e3, rfl⟩ := DataW.trod_bool Tryd.underlying4 l0
  obtain ⟨b4, e4, rfl, _⟩ := DataW.trod_int Tryd.underlying5 l1
  obtain ⟨b5, e5, rfl, _⟩ := DataW.trod_int Tryd.underlying5 l2
  simp at e0 e1 e2 e3 e4 e5
  subst e0 e1 e2 e3 e4 e5
  subst hy hz
  simp at hx
  obtain ⟨⟨⟨rfl, rfl, rfl⟩, rfl, rfl, rfl⟩, _⟩ := hx
  exact ⟨⟨hc 0, hc 1, hc 2⟩, hc 3, hc 4, hc 5⟩
end Go.Proofs.YtpibpdpedjinhaaDoor
