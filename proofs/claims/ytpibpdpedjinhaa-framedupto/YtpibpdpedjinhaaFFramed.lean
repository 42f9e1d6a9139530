/- tributarylaw.Framed returns true, if the program's Frames finds what the document's finds, in memory of its own. -/
import Derived.Test.YtpibpdpedjinhaaFStill
namespace Go.Proofs.Ytpibpdpedjinhaa.Fr
open Go.RowKit Go.Joins

/-- what is asked of the program's Frames -/
def FramesSaid : Prop := ∀ (s : ByteArray) (w : World), s.size ≤ 1048576 →
    Calls Try.prog 9 #[.string s] w fun e w' => GotF w.heap.size w' e (frames s.data.toList) ∧ Below w.heap.size w w'
theorem rest_len : ∀ (f : Nat) (s : List UInt8) (p : Nat) (l : List F), rest f s p = some l → l.length ≤ f
  | 0, s, p, l, h => by
    simp only [rest] at h
    split at h
    · simp at h; subst h; simp
    · simp at h
  | f + 1, s, p, l, h => by
    rw [rest] at h
    split at h
    · simp at h; subst h; simp
    · cases ho : one s p with
      | none => rw [ho] at h; simp at h
      | some x =>
        obtain ⟨x, n⟩ := x
        rw [ho] at h
        simp only at h
        obtain ⟨t, ht, rfl⟩ := Option.map_eq_some_iff.1 h
        have := rest_len f s _ t ht
        simp only [List.length_cons]
        omega
theorem frames_len (s : List UInt8) : ((frames s).getD []).length ≤ s.length := by
  cases h : frames s with
  | none => simp
  | some l =>
    unfold frames at h
    split at h
    · simp at h
    · exact rest_len _ _ _ _ h
theorem Book.new (w : World) (B0 : Nat) (hB : B0 ≤ w.heap.size) : Book (w.alloc (.cells #[.int .i64 0, .slice none 0 0, .slice none 0 0, .slice none 0 0, .slice none 0 0, .slice none 0 0, .slice none 0 0, .slice none 0 0, .slice none 0 0] 35)) w.heap.size B0 0 [] :=
  ⟨.slice none 0 0, .slice none 0 0, ⟨heap_alloc_new _ _, hB, World.ownsRow_nil _ _ _ _, World.ownsRow_nil _ _ _ _⟩, fun e he => by simp at he⟩
theorem Book.below {W W' : World} {kb B0 N : Nat} {es : List E} (h : Book W kb B0 N es) (hb : Below W.heap.size W W') : Book W' kb B0 N es := by
  obtain ⟨vi, vm, h1, h2⟩ := h
  exact ⟨vi, vm, Book.kept h1 (fun k cs t _ hc => (hb.block k (Array.getElem?_eq_some_iff.1 hc).1).trans hc), fun e he => (h2 e he).kept (h2 e he).lt (fun g cur hg hc => (hb.block g hg).trans hc)⟩
/-- frames, or none, in one shape -/
theorem GotF.uni {lo : Nat} {w' : World} {e : Ending} {R : Option (List F)} (h : GotF lo w' e R) : ∃ a cap, e = .returned (.tuple #[.slice a (R.getD []).length cap, .bool R.isSome]) ∧ w'.ownsRow lo 42 4 (.slice a (R.getD []).length cap) (R.getD []).length (flat (R.getD [])) := by
  cases R with
  | none => exact ⟨none, 0, h, World.ownsRow_nil _ _ _ _⟩
  | some l => exact h
theorem flat_get : ∀ (l : List F) (j : Nat) (x : F), l[j]? = some x → (flat l)[j * 4]? = some (.int .u32 x.chan) ∧ (flat l)[j * 4 + 1]? = some (.int .u16 x.num) ∧ (flat l)[j * 4 + 2]? = some (.string ⟨x.data.toArray⟩) ∧ (flat l)[j * 4 + 3]? = some (.bool x.last)
  | [], j, x, h => by simp at h
  | y :: l, 0, x, h => by
    simp at h
    subst h
    exact ⟨rfl, rfl, rfl, rfl⟩
  | y :: l, j + 1, x, h => by
    have := flat_get l j x (by simpa using h)
    rw [flat]
    obtain ⟨a, b, c, d⟩ := this
    refine ⟨?_, ?_, ?_, ?_⟩
    · rw [List.getElem?_append_right (by simp [fcells]; omega), ← a]; congr 1; simp [fcells]; omega
    · rw [List.getElem?_append_right (by simp [fcells]; omega), ← b]; congr 1; simp [fcells]; omega
    · rw [List.getElem?_append_right (by simp [fcells]; omega), ← c]; congr 1; simp [fcells]; omega
    · rw [List.getElem?_append_right (by simp [fcells]; omega), ← d]; congr 1; simp [fcells]; omega

theorem row_frame {W wx : World} {b k g cap l : Nat} {fs : List F} (h : W.ownsRow b 42 4 (.slice (some ⟨g, 0, none⟩) l cap) k (flat fs)) (hb : Below W.heap.size W wx) {j : Nat} {x : F} (hj : fs[j]? = some x) : wx.cell? ⟨g, j * 4, none⟩ = some (.int .u32 x.chan) ∧ wx.cell? ⟨g, j * 4 + 1, none⟩ = some (.int .u16 x.num) ∧ wx.cell? ⟨g, j * 4 + 2, none⟩ = some (.string ⟨x.data.toArray⟩) ∧ wx.cell? ⟨g, j * 4 + 3, none⟩ = some (.bool x.last) := by
  obtain ⟨h0, h1, h2, h3⟩ := flat_get fs j x hj
  have hc := h.cells (g := g) rfl
  have hl := (own_lt h rfl).2
  have k : ∀ (q : Nat) (u : Value), (flat fs)[q]? = some u → wx.cell? ⟨g, q, none⟩ = some u := by
    intro q u hq
    have := hc q u hq
    rw [addr_add'] at this
    exact (hb.cell (p := ⟨g, q, none⟩) hl).trans this
  exact ⟨k _ _ h0, k _ _ h1, k _ _ h2, k _ _ h3⟩

set_option maxRecDepth 100000 in
set_option maxHeartbeats 4000000 in
theorem framed_walk (hF : FramesSaid) (s t : ByteArray) (w : World) (hs : s.size ≤ 1048576) (ht : t.size ≤ 1048576) :
    Calls Try.prog 4 #[.string s, .string t] w fun e w' => e = .returned (.bool true) ∧ Below w.heap.size w w' := by
  have HF : Hid _ := hF
  clear hF
  obtain ⟨u0, hu0⟩ : ∃ u0 : World, u0 = w.alloc (.cells #[.int .i64 0, .slice none 0 0, .slice none 0 0, .slice none 0 0, .slice none 0 0, .slice none 0 0, .slice none 0 0, .slice none 0 0, .slice none 0 0] 35) := ⟨_, rfl⟩
  have hb0 : Below w.heap.size w u0 := by rw [hu0]; exact (Below.refl _ _).alloc (Nat.le_refl _) _
  have hbk0 : Hid (Book u0 w.heap.size w.heap.size 0 []) := by rw [hu0]; exact Book.new w w.heap.size (Nat.le_refl _)
  go_enter Try.func4, Try.ntmps4
  go_wp2_with fail
  rw [← hu0]
  clear hu0
  go_loopg [6] 3 (fun g v wx => ∃ (k : Nat) (es : List E), k ≤ 3 ∧ v = .int .i64 k ∧ g = 3 - k ∧ Hid (es.length = 4 * k ∧ Book wx w.heap.size w.heap.size k es) ∧ Below w.heap.size w wx)
  case atStart => exact ⟨0, [], Nat.zero_le _, rfl, rfl, ⟨rfl, hbk0.out⟩, hb0⟩
  case round =>
    obtain ⟨k, es, hk, rfl, rfl, HB, hb⟩ := hrel
    by_cases hlt : k < 3
    · have hlt' : (k : Int) < 3 := by omega
      obtain ⟨D, hD⟩ : ∃ D : ByteArray, D = if k = 1 then t else s := ⟨_, rfl⟩
      have hDs : D.size ≤ 1048576 := by rw [hD]; split <;> assumption
      go_upto_if 22 with fail
      go_cut [7] (fun v wx => v = .string D ∧ wx = wr)
      case first =>
        by_cases h1 : k = 1
        · have h1' : ((k : Int) == 1) = true := by simp [h1]
          rw [if_pos h1] at hD
          subst hD
          go_wp2_with fail
          go_meet
          exact ⟨rfl, rfl⟩
        · have h1' : ((k : Int) == 1) = false := by simp; omega
          rw [if_neg h1] at hD
          subst hD
          go_wp2_with fail
          go_meet
          exact ⟨rfl, rfl⟩
      case rest =>
        obtain ⟨rfl, hwc⟩ := hcut
        obtain rfl : wr = wc := hwc.symm
        have hlen := frames_len D.data.toList
        rw [← Lib.size_eq] at hlen
        have hc1 := HF.out D wr hDs
        have hc2 := fun W : World => rframes_any D W (by omega)
        generalize frames D.data.toList = R at hlen hc1 hc2
        obtain ⟨fs, hfs⟩ : ∃ fs, R.getD [] = fs := ⟨_, rfl⟩
        obtain ⟨ok, hok⟩ : ∃ ok, R.isSome = ok := ⟨_, rfl⟩
        have d1 : Calls Try.prog 9 #[.string D] wr fun e w' => ∃ a cap, e = .returned (.tuple #[.slice a fs.length cap, .bool ok]) ∧ Hid (w'.ownsRow wr.heap.size 42 4 (.slice a fs.length cap) fs.length (flat fs)) ∧ Below wr.heap.size wr w' := hc1.mono (by rintro e w' ⟨h1, h2⟩; obtain ⟨a, cap, h3, h4⟩ := GotF.uni h1; rw [hfs, hok] at h3; rw [hfs] at h4; exact ⟨a, cap, h3, h4, h2⟩)
        have d2 : ∀ W : World, Calls Try.prog 10 #[.string D] W fun e w' => ∃ a cap, e = .returned (.tuple #[.slice a fs.length cap, .bool ok]) ∧ Hid (w'.ownsRow W.heap.size 42 4 (.slice a fs.length cap) fs.length (flat fs)) ∧ Below W.heap.size W w' := fun W => (hc2 W).mono (by rintro e w' ⟨h1, h2⟩; obtain ⟨a, cap, h3, h4⟩ := GotF.uni h1; rw [hfs, hok] at h3; rw [hfs] at h4; exact ⟨a, cap, h3, h4, h2⟩)
        have D1 : Hid _ := d1
        have D2 : Hid _ := d2
        rw [hfs] at hlen
        obtain ⟨fl, hfl⟩ : ∃ fl, fs.length = fl := ⟨_, rfl⟩
        rw [hfl] at hlen D1 D2
        clear hc1 hc2 d1 d2 hfs hok hD
        go_wp2_with fail
        refine Calls.mono D1.out ?_
        rintro e w1 ⟨a1, cap1, rfl, O1, b1⟩
        go_wp2_with fail
        refine (D2.out w1).mono ?_
        rintro e w2 ⟨a2, cap2, rfl, O2, b2⟩
        go_wp2_with fail
        obtain ⟨Wk, rfl⟩ : ∃ Wk : World, Wk = wr := ⟨_, rfl⟩
        have s1 := b1.size
        have s2 := b2.size
        have sk := hb.size
        go_loopg [12] fl (fun g v wx => ∃ j : Nat, j ≤ fl ∧ v = .int .i64 j ∧ g = fl - j ∧ Below w2.heap.size w2 wx)
        case atStart => exact ⟨0, Nat.zero_le _, rfl, rfl, Below.refl _ _⟩
        case round =>
          obtain ⟨j, hj, rfl, rfl, hb2⟩ := hrel
          by_cases hjl : j < fl
          · have hjl' : (j : Int) < (fl : Int) := by omega
            have o1 := O1.out
            have o2 := O2.out
            obtain ⟨g1, c1', hsh1⟩ := owns_shape o1 (by omega)
            obtain ⟨g2, c2', hsh2⟩ := owns_shape o2 (by omega)
            simp only [Value.slice.injEq, true_and] at hsh1 hsh2
            obtain ⟨rfl, rfl⟩ := hsh1
            obtain ⟨rfl, rfl⟩ := hsh2
            obtain ⟨x, hx⟩ : ∃ x, fs[j]? = some x := ⟨_, List.getElem?_eq_getElem (by omega)⟩
            obtain ⟨p0, p1, p2, p3⟩ := row_frame o1 (b2.trans (hb2.mono s2)) hx
            obtain ⟨z0, z1, z2, z3⟩ := row_frame o2 hb2 hx
            obtain ⟨XB, hXB⟩ : ∃ XB : ByteArray, (⟨x.data.toArray⟩ : ByteArray) = XB := ⟨_, rfl⟩
            rw [hXB] at p2 z2
            clear o1 o2 hx hXB
            go_upto_region 15 with fail
            go_region_held3 (fun w' => w'.cell? ⟨g1, j * 4, none⟩ = some (.int .u32 x.chan) ∧ w'.cell? ⟨g1, j * 4 + 1, none⟩ = some (.int .u16 x.num) ∧ w'.cell? ⟨g1, j * 4 + 2, none⟩ = some (.string XB) ∧ w'.cell? ⟨g1, j * 4 + 3, none⟩ = some (.bool x.last) ∧ w'.cell? ⟨g2, j * 4, none⟩ = some (.int .u32 x.chan) ∧ w'.cell? ⟨g2, j * 4 + 1, none⟩ = some (.int .u16 x.num) ∧ w'.cell? ⟨g2, j * 4 + 2, none⟩ = some (.string XB) ∧ w'.cell? ⟨g2, j * 4 + 3, none⟩ = some (.bool x.last)) (go_keep) (fail)
            all_goals
              go_wp2_with fail
              go_roundg (fl - (j + 1))
              case measure => omega
              case rel => exact ⟨j + 1, by omega, by go_num, rfl, by first | exact hb2.drew | exact below_drewN hb2 _⟩
          · obtain rfl : j = fl := by omega
            have hjl' : ¬ (j : Int) < (j : Int) := by omega
            have bkr : Below Wk.heap.size Wk wr := (b1.trans (b2.mono s1)).trans (hb2.mono (by omega))
            have sr := bkr.size
            have hbk : Book wr w.heap.size w.heap.size k es := Book.below HB.out.2 bkr
            have hown : wr.ownsRow Wk.heap.size 42 4 (.slice a1 j cap1) j (flat fs) := own_below (own_below O1.out b2) hb2
            have hat : ∀ e, e ∈ es → e.At (fun g => Value.ownBlock (.slice a1 j cap1) ≠ some g) := by
              obtain ⟨vi, vm, _, hrd⟩ := HB.out.2
              intro e he hl0 a ha hob
              have h1 : a.block < Wk.heap.size := (hrd e he).lt hl0 a ha
              have h2 := (own_lt hown hob).1
              omega
            have hcall := fun (_ : Unit) => bframe_any a1 j cap1 Wk.heap.size (flat fs) wr w.heap.size w.heap.size k es hown sk (by omega) (by omega) (by omega) (by omega) (by rw [HB.out.1]; omega) hbk hat
            have Hcall : Hid _ := hcall
            clear hcall hown hat hbk
            go_wp2_with fail
            refine (Hcall.out ()).mono ?_
            rintro e w3 ⟨rfl, es3, l3, k3, b3⟩
            have hl4 : (es ++ es3).length ≤ 134217728 := by rw [List.length_append, HB.out.1, l3]; omega
            have Hk3 : Hid _ := And.intro k3 hl4
            clear k3 hl4
            go_wp2_with fail
            refine (still_any w3 w.heap.size w.heap.size (k + 1) _ Hk3.out.1 Hk3.out.2).mono ?_
            rintro e w4 ⟨rfl, b4⟩
            have s3 := b3.size
            go_wp2_with fail
            go_roundg (3 - (k + 1))
            case measure => omega
            case rel => exact ⟨k + 1, es ++ es3, by omega, by go_num, rfl, ⟨by rw [List.length_append, HB.out.1, l3]; omega, Book.below Hk3.out.1 b4⟩, ((hb.trans (bkr.mono sk)).trans b3).trans (b4.mono (by omega))⟩
    · obtain rfl : k = 3 := by omega
      have hlt' : ¬ ((3 : Nat) : Int) < 3 := by omega
      go_wp2_with fail
      go_ret
      exact ⟨rfl, hb⟩
end Go.Proofs.Ytpibpdpedjinhaa.Fr
