/- The walk of tributarylaw.spare: behind the ends of an item's own lists all is as it was laid; it writes over those lists alone. -/
import Derived.Test.YtpibpdpedjinhaaDoorWOwn2
namespace Go.Proofs.YtpibpdpedjinhaaDoor
open Go.RowKit Go.Joins

/-- nothing that was there has turned, but blocks from lo on, below hi -/
structure Touch (lo hi : Nat) (w w' : World) : Prop where
  os : w'.os = w.os
  tape : w'.tape = w.tape
  output : w'.output = w.output
  size : w.heap.size ≤ w'.heap.size
  block : ∀ k, k < w.heap.size → (k < lo ∨ hi ≤ k) → w'.heap[k]? = w.heap[k]?
theorem Touch.refl (lo hi : Nat) (w : World) : Touch lo hi w w := ⟨rfl, rfl, rfl, Nat.le_refl _, fun _ _ _ => rfl⟩
theorem Touch.trans {lo hi : Nat} {a b c : World} (h : Touch lo hi a b) (k : Touch lo hi b c) : Touch lo hi a c :=
  ⟨k.os.trans h.os, k.tape.trans h.tape, k.output.trans h.output, Nat.le_trans h.size k.size, fun m hm hr => (k.block m (Nat.lt_of_lt_of_le hm h.size) hr).trans (h.block m hm hr)⟩
theorem Touch.wider {lo hi lo' hi' : Nat} {a b : World} (h : Touch lo hi a b) (h1 : lo' ≤ lo) (h2 : hi ≤ hi') : Touch lo' hi' a b :=
  ⟨h.os, h.tape, h.output, h.size, fun m hm hr => h.block m hm (by omega)⟩
theorem Touch.alloc {lo hi : Nat} {a b : World} (h : Touch lo hi a b) (o : Obj) : Touch lo hi a (b.alloc o) :=
  ⟨h.os, h.tape, h.output, by have := h.size; simp; omega, fun m hm hr => by rw [Below.heap_alloc _ _ _ (by have := h.size; omega)]; exact h.block m hm hr⟩
theorem Touch.setCell {lo hi : Nat} {a b : World} (h : Touch lo hi a b) {p : Addr} (h1 : lo ≤ p.block) (h2 : p.block < hi) (u : Value) : Touch lo hi a (b.setCell p u) :=
  ⟨h.os, h.tape, h.output, by have := h.size; simp [World.setCell]; omega, fun m hm hr => by rw [Below.heap_setCell _ _ _ _ (by omega)]; exact h.block m hm hr⟩
theorem Touch.below {lo hi B : Nat} {a b : World} (h : Touch lo hi a b) (h1 : B ≤ lo) (h2 : B ≤ a.heap.size) : Below B a b :=
  ⟨h.os, h.tape, h.output, h.size, fun m hm => h.block m (by omega) (by omega)⟩

set_option maxRecDepth 100000 in
set_option maxHeartbeats 1000000 in
theorem spare_any : ∀ (n lo hi : Nat) (i : Im.It) (c0 c1 c2 : Value) (w : World), hi ≤ w.heap.size → Im.wt n i ≤ 2097152 → Own w n lo hi c0 c1 c2 i → Im.dp n i →
    Calls Tryd.prog 10 #[.agg #[c0, c1, c2]] w fun e w' => e = .returned (.bool true) ∧ Touch lo hi w w' := by
  intro n
  induction n with
  | zero => intro lo hi i c0 c1 c2 w _ _ h; cases h
  | succ n ih =>
    intro lo hi i c0 c1 c2 w hhi hw h hdp
    have hkl := Im.kids_le hdp
    obtain ⟨rfl, rfl, g, cap, cur, rfl, hg1, hg2, hh, hcp, hcm, hcs, ⟨s0, s1, s2⟩, L, H, hLH, hord, hkids⟩ := h
    have Hih : Hid _ := ih
    have Hdp : Hid (Im.dp (n + 1) i) := hdp
    clear ih hdp
    have hl : i.kids.length ≤ 2097152 := by omega
    obtain ⟨S, hS⟩ : ∃ S : ByteArray, (⟨i.bytes.toArray⟩ : ByteArray) = S := ⟨_, rfl⟩
    rw [hS]
    clear hS
    obtain ⟨X, hX⟩ : ∃ X : World, X = w.alloc (.cells #[.bool i.list, .string S, .slice (some ⟨g, 0, none⟩) i.kids.length cap] 24) := ⟨_, rfl⟩
    have hXs : X.heap.size = w.heap.size + 1 := by rw [hX]; simp
    have hXh : X.heap[g]? = some (.cells cur 24 (0, 0)) := by rw [hX, Below.heap_alloc _ _ _ (by omega)]; exact hh
    have hXt : Touch lo hi w X := by rw [hX]; exact (Touch.refl _ _ _).alloc _
    have hXk : ∀ j (hj : j < i.kids.length), ∃ d0 d1 d2, cur[j * 3]? = some d0 ∧ cur[j * 3 + 1]? = some d1 ∧ cur[j * 3 + 2]? = some d2 ∧ Own X n (L j) (H j) d0 d1 d2 (i.kids[j]) := by
      intro j hj
      obtain ⟨d0, d1, d2, e0, e1, e2, e3⟩ := hkids j hj
      have := hLH j hj
      exact ⟨d0, d1, d2, e0, e1, e2, Own.kept n _ _ _ _ _ _ (fun m m1 m2 => by rw [hX, Below.heap_alloc _ _ _ (by omega)]) e3⟩
    have q0 : X.cell? ⟨g, i.kids.length * 3, none⟩ = some (.bool false) := by rw [Lib.cell_of_heap hXh]; exact s0
    have q1 : X.cell? ⟨g, i.kids.length * 3 + 1, none⟩ = some (.string ⟨#[115, 112, 97, 114, 101]⟩) := by rw [Lib.cell_of_heap hXh]; exact s1
    have q2 : X.cell? ⟨g, i.kids.length * 3 + 2, none⟩ = some (.slice none 0 0) := by rw [Lib.cell_of_heap hXh]; exact s2
    have hb2 : X.cell? ⟨w.heap.size, 2, none⟩ = some (.slice (some ⟨g, 0, none⟩) i.kids.length cap) := by rw [hX]; simp
    have hcp' : (i.kids.length : Int) + 1 ≤ (cap : Int) := by omega
    have hcm' : (cap : Int) ≤ 9223372036854775807 := by unfold maxLen at hcm; omega
    have HX : Hid _ := And.intro hXs (And.intro hXh (And.intro hXt hXk))
    have HL : Hid _ := And.intro hLH hord
    clear hLH hord hkids s0 s1 s2 hXh hXt hXk hh
    have hgX : g ≠ w.heap.size := by omega
    go_enter Tryd.func10, Tryd.ntmps10
    go_upto_region 1 with fail
    rw [← hX]
    clear hX
    go_wp2_with fail
    clear q0 q1 q2 hb2
    go_loopg [5, 6] i.kids.length (fun gg v t wx => ∃ k : Nat, k ≤ i.kids.length ∧ t = .int .i64 k ∧ v = .bool true ∧ gg = i.kids.length - k ∧ wx.heap[g]? = some (.cells cur 24 (0, 0)) ∧ Touch lo hi X wx ∧ (∀ j (_ : k ≤ j) (hj : j < i.kids.length), ∃ d0 d1 d2, cur[j * 3]? = some d0 ∧ cur[j * 3 + 1]? = some d1 ∧ cur[j * 3 + 2]? = some d2 ∧ Own wx n (L j) (H j) d0 d1 d2 (i.kids[j])))
    case atStart =>
      obtain ⟨hXs, hXh, hXt, hXk⟩ := HX.out
      exact ⟨0, Nat.zero_le _, rfl, rfl, rfl, hXh, Touch.refl _ _ _, fun j _ hj => hXk j hj⟩
    case round =>
      obtain ⟨k, hk, rfl, rfl, rfl, hxh, hxt, hxk⟩ := hrel
      obtain ⟨hXs, _, hXt, _⟩ := HX.out
      have hsz := hxt.size
      by_cases hlt : k < i.kids.length
      · have hlt' : (k : Int) < (i.kids.length : Int) := by omega
        obtain ⟨hLH, hord⟩ := HL.out
        obtain ⟨d0, d1, d2, e0, e1, e2, ho⟩ := hxk k (Nat.le_refl _) hlt
        obtain ⟨g1, cap1, rfl, rfl, rfl⟩ := ho.shape
        have hwk := Im.wt_kid (n := n) (List.getElem_mem hlt)
        have hlk := hLH k hlt
        have p0 : wr.cell? ⟨g, k * 3, none⟩ = some (.bool i.kids[k].list) := by rw [Lib.cell_of_heap hxh]; exact e0
        have p1 : wr.cell? ⟨g, k * 3 + 1, none⟩ = some (.string ⟨i.kids[k].bytes.toArray⟩) := by rw [Lib.cell_of_heap hxh]; exact e1
        have p2 : wr.cell? ⟨g, k * 3 + 2, none⟩ = some (.slice (some ⟨g1, 0, none⟩) i.kids[k].kids.length cap1) := by rw [Lib.cell_of_heap hxh]; exact e2
        have hcall := fun (_ : Unit) => Hih.out (L k) (H k) (i.kids[k]) _ _ _ wr (by omega) (by omega) ho (Hdp.out _ (List.getElem_mem hlt))
        have Hcall : Hid _ := hcall
        have Hxk : Hid _ := hxk
        have Hxh : Hid _ := hxh
        have HLk : Hid _ := And.intro hLH hord
        clear hcall hxk ho e0 e1 e2 hxh hLH hord
        go_wp2_with fail
        refine (Hcall.out ()).mono ?_
        rintro e w1 ⟨rfl, ht1⟩
        clear p0 p1 p2
        go_wp2_with fail
        go_roundg (i.kids.length - (k + 1))
        case measure => omega
        case rel =>
          obtain ⟨hLH, hord⟩ := HLk.out
          refine ⟨k + 1, by omega, by go_num, rfl, rfl, (ht1.block g (by omega) hlk.2.2.2).trans Hxh.out, hxt.trans (ht1.wider hlk.1 hlk.2.2.1), fun j hj hjl => ?_⟩
          obtain ⟨d0, d1, d2, e0, e1, e2, ho⟩ := Hxk.out j (by omega) hjl
          have := hLH j hjl
          have := hord k j (by omega) hjl
          exact ⟨d0, d1, d2, e0, e1, e2, Own.kept n _ _ _ _ _ _ (fun m m1 m2 => ht1.block m (by omega) (by omega)) ho⟩
      · have hlt' : ¬ (k : Int) < (i.kids.length : Int) := by omega
        have Hxh : Hid _ := hxh
        clear hxk hxh
        go_wp2_with fail
        go_loopg [8] (i.kids.length + 1) (fun gg t wx => ∃ (k : Nat) (cu : Array Value), k ≤ i.kids.length + 1 ∧ t = .int .i64 k ∧ gg = i.kids.length + 1 - k ∧ cu.size = cap * 3 ∧ wx.heap[g]? = some (.cells cu 24 (0, 0)) ∧ Touch lo hi X wx)
        case atStart => exact ⟨0, cur, Nat.zero_le _, rfl, rfl, hcs, Hxh.out, hxt⟩
        case round =>
          obtain ⟨m, cu, hm, rfl, rfl, hcu, hyh, hyt⟩ := hrel
          by_cases hlt2 : m ≤ i.kids.length
          · have hlt2' : (m : Int) ≤ (i.kids.length : Int) := by omega
            have y : ∀ r, r < 3 → ∃ u, wr.cell? ⟨g, m * 3 + r, none⟩ = some u := by
              intro r hr
              rw [Lib.cell_of_heap hyh]
              have : m * 3 + r < cu.size := by rw [hcu]; omega
              exact ⟨_, Array.getElem?_eq_getElem this⟩
            obtain ⟨u0, y0⟩ := y 0 (by omega)
            obtain ⟨u1, y1⟩ := y 1 (by omega)
            obtain ⟨u2, y2⟩ := y 2 (by omega)
            rw [Nat.add_zero] at y0
            have yf := Lib.frozen_of_heap hyh
            have Hyh : Hid _ := hyh
            clear hyh y
            go_wp2_with fail
            go_roundg (i.kids.length + 1 - (m + 1))
            case measure => omega
            case rel =>
              have z1 := block_setCell Hyh.out (i := m * 3) (.bool false)
              have z2 := block_setCell z1 (i := m * 3 + 1) (.string ⟨#[109, 105, 110, 101]⟩)
              have z3 := block_setCell z2 (i := m * 3 + 2) (.slice none 0 0)
              exact ⟨m + 1, _, by omega, by go_num, rfl, by simp [hcu], z3, ((hyt.setCell hg1 hg2 _).setCell hg1 hg2 _).setCell hg1 hg2 _⟩
          · have hlt2' : ¬ (m : Int) ≤ (i.kids.length : Int) := by omega
            have Hyh : Hid _ := hyh
            clear hyh
            go_wp2_with fail
            go_ret
            exact ⟨rfl, hXt.trans hyt⟩
end Go.Proofs.YtpibpdpedjinhaaDoor
