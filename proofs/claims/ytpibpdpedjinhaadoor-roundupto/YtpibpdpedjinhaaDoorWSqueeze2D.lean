/- The walks of code.writePiece and code.Squeeze: what Squeeze gives is Sq.enc, for strings of at most 2^20 bytes. -/
import Derived.Test.YtpibpdpedjinhaaDoorWSqueezeD
import Derived.Deep.RegionWith
namespace Go.Proofs.YtpibpdpedjinhaaDoor
open Go.RowKit Go.Joins

set_option maxRecDepth 100000 in
set_option maxHeartbeats 1000000 in
theorem write_run (B b : Nat) (l : List UInt8) (p : Sq.Plan) (s : ByteArray) (w : World) (h : IsB B b l w) (hl : l.length ≤ 4194304) (hB : B ≤ w.heap.size) (h0 : 0 < s.size) (hr : p.run = true) (h1 : 2 ≤ p.size) (h2 : p.size ≤ 128) :
    Calls Tryd.prog 24 #[.pointer (some ⟨b, 0, none⟩), .agg #[.int .i64 p.cost, .bool p.run, .int .i64 p.size], .string s] w fun e w' => e = .returned (.tuple #[]) ∧ IsB B b (l ++ Sq.first p s.data.toList) w' ∧ Below B w w' := by
  obtain ⟨c, r, z⟩ := p
  simp only at h1 h2 hr ⊢
  subst hr
  go_enter Tryd.func24, Tryd.ntmps24
  go_wp2_with fail
  rw [show ((257 : Int) - (z : Int)) = ((UInt8.ofNat (257 - z)).toNat : Int) from by simp; omega]
  refine (bByte B b l _ _ (h.alloc _) (by omega) (by simp; omega)).mono ?_
  rintro e w1 ⟨rfl, hI1, hb1, hk1⟩
  have hb1' : Below B w w1 := ((Below.refl B w).alloc hB _).trans hb1
  go_wp2_with fail
  refine (bByte B b _ _ _ hI1 (by simp; omega) (by have := hb1'.size; omega)).mono ?_
  rintro e w2 ⟨rfl, hI2, hb2, hk2⟩
  go_wp2
  refine bodyPost_ret (v := .tuple #[]) (by simp [results, Tryd.results24, go_sem]) rfl ⟨rfl, ?_, hb1'.trans hb2⟩
  have e : l ++ Sq.first ⟨c, true, z⟩ s.data.toList = l ++ [UInt8.ofNat (257 - z)] ++ [s[0]] := by
    have d1 : s.data.toList = s[0] :: s.data.toList.drop 1 := by
      have hl := Lib.size_eq s
      have := List.drop_eq_getElem_cons (l := s.data.toList) (i := 0) (by omega)
      rw [List.drop_zero, Array.getElem_toList] at this
      exact this
    rw [Sq.first, d1]
    simp
  rw [e]
  exact hI2

set_option maxRecDepth 100000 in
set_option maxHeartbeats 1000000 in
theorem write_lit (B b : Nat) (l : List UInt8) (p : Sq.Plan) (s : ByteArray) (w : World) (h : IsB B b l w) (hl : l.length ≤ 4194304) (hB : B ≤ w.heap.size) (hr : p.run = false) (h1 : 1 ≤ p.size) (h2 : p.size ≤ 128) (h3 : p.size ≤ s.size) :
    Calls Tryd.prog 24 #[.pointer (some ⟨b, 0, none⟩), .agg #[.int .i64 p.cost, .bool p.run, .int .i64 p.size], .string s] w fun e w' => e = .returned (.tuple #[]) ∧ IsB B b (l ++ Sq.first p s.data.toList) w' ∧ Below B w w' := by
  obtain ⟨c, r, z⟩ := p
  simp only at h1 h2 h3 hr ⊢
  subst hr
  go_enter Tryd.func24, Tryd.ntmps24
  go_wp2_with fail
  rw [show ((z : Int) - 1) = ((UInt8.ofNat (z - 1)).toNat : Int) from by simp; omega]
  have hlt : b < w.heap.size := h.elim (fun x => x.lt) (fun x => x.lt)
  refine (bByte B b l _ _ (h.alloc _) (by omega) (by simp; omega)).mono ?_
  rintro e w1 ⟨rfl, hI1, hb1, hk1⟩
  have hb1' : Below B w w1 := ((Below.refl B w).alloc hB _).trans hb1
  have hbox : w1.heap[w.heap.size]? = some (.cells #[.int .i64 (c : Int), .bool false, .int .i64 (z : Int)] 74 (0, 0)) := hk1 w.heap.size _ (heap_alloc_new _ _) (by simp; omega) (by simp)
  have cz : w1.cell? ⟨w.heap.size, 2, none⟩ = some (.int .i64 (z : Int)) := by rw [Lib.cell_of_heap hbox]; rfl
  have hz1 : (z : Int) ≤ (s.size : Int) := by omega
  have Hbox : Hid _ := hbox
  clear hbox
  go_wp2_with fail
  refine (bWrite B b _ _ _ hI1 (by simp [ByteArray.size_extract]; omega) (by have := hb1'.size; omega)).mono ?_
  rintro e w2 ⟨rfl, hI2, hb2⟩
  go_wp2
  go_end0
  refine ⟨rfl, ?_, hb1'.trans hb2⟩
  have e : l ++ Sq.first ⟨c, false, z⟩ s.data.toList = l ++ [UInt8.ofNat (z - 1)] ++ (s.extract 0 z).data.toList := by
    rw [extract_list, Sq.first]
    simp
  rw [e]
  exact hI2

/-- either way -/
theorem write_any (B b : Nat) (l : List UInt8) (t : ByteArray) (x : UInt8) (r : List UInt8) (w : World) (h : IsB B b l w) (hl : l.length ≤ 4194304) (hB : B ≤ w.heap.size) (ht : t.data.toList = x :: r) :
    Calls Tryd.prog 24 #[.pointer (some ⟨b, 0, none⟩), .agg #[.int .i64 (Sq.plan (x :: r)).cost, .bool (Sq.plan (x :: r)).run, .int .i64 (Sq.plan (x :: r)).size], .string t] w fun e w' => e = .returned (.tuple #[]) ∧ IsB B b (l ++ Sq.first (Sq.plan (x :: r)) (x :: r)) w' ∧ Below B w w' := by
  obtain ⟨h1, h2, h3, h4, h5⟩ := Sq.plan_is x r
  have hs : t.size = r.length + 1 := by rw [Lib.size_eq, ht]; rfl
  cases hb : (Sq.plan (x :: r)).run with
  | true =>
    have c := write_run B b l (Sq.plan (x :: r)) t w h hl hB (by omega) hb (h4 hb).1 h2
    rw [ht, hb] at c
    exact c
  | false =>
    have c := write_lit B b l (Sq.plan (x :: r)) t w h hl hB hb h1 h2 (by omega)
    rw [ht, hb] at c
    exact c

set_option maxRecDepth 100000 in
set_option maxHeartbeats 1000000 in
theorem squeeze_any (s : ByteArray) (w : World) (hs : s.size ≤ 1048576) :
    Calls Tryd.prog 15 #[.string s] w fun e w' => e = .returned (.string ⟨(Sq.enc s.size s.data.toList).toArray⟩) ∧ Below w.heap.size w w' := by
  have hl := Lib.size_eq s
  have hcost := (plan_small s.data.toList).1
  rw [← hl] at hcost
  have henc := Sq.enc_length s.size s.data.toList (by omega)
  generalize hE : Sq.enc s.size s.data.toList = E at *
  have HE : Hid _ := hE
  have Henc : Hid _ := henc
  have Hl : Hid _ := hl
  clear hE henc hl
  go_enter Tryd.func15, Tryd.ntmps15
  go_wp2_with fail
  refine (plans_any s _ hs).mono ?_
  rintro e w1 ⟨rfl, hP1, hb1⟩
  have hlt1 : w.heap.size < w1.heap.size := (Array.getElem?_eq_some_iff.1 hP1).1
  have c0 := (hP1.cell 0 (by rw [Sq.tab_length]; omega)).1
  rw [show (Sq.tab s.data.toList).getD 0 Sq.nought = Sq.plan s.data.toList from rfl] at c0
  simp only [Nat.zero_mul] at c0
  go_wp2_with fail
  refine (bGrow w1.heap.size w1.heap.size _ _ (Nat.le_refl _) (heap_alloc_new _ _) (by simp) (by omega)).mono ?_
  rintro e w2 ⟨rfl, hI2, hb2⟩
  have hP2 : Plans w.heap.size (Sq.tab s.data.toList) w2 := (hb2.block _ hlt1).trans (hP1.alloc _)
  have hb3 : Below w.heap.size w w2 := (hb1.alloc (by omega) _).trans (hb2.mono (by omega))
  have hsz2 : w1.heap.size ≤ w2.heap.size := by have := hb2.size; simp at this; omega
  clear c0 hP1
  go_wp2_with fail
  go_loopg [5] s.size (fun g t wx => ∃ (k f : Nat) (acc : List UInt8), t = .int .i64 k ∧ k ≤ s.size ∧ g = s.size - k ∧ s.size - k ≤ f ∧ Hid (acc ++ Sq.enc f (s.data.toList.drop k) = E) ∧ IsB w1.heap.size w1.heap.size acc wx ∧ Plans w.heap.size (Sq.tab s.data.toList) wx ∧ Below w.heap.size w wx ∧ w1.heap.size ≤ wx.heap.size)
  case atStart => exact ⟨0, s.size, [], rfl, Nat.zero_le _, rfl, by omega, HE.out, hI2, hP2, hb3, hsz2⟩
  case round =>
    obtain ⟨k, f, acc, rfl, hk, rfl, hf, Hacc, hI, hP, hb, hsz⟩ := hrel
    have Hb1 : Hid (Below w.heap.size w w1) := hb1
    clear hI2 hP2 hb3 hsz2 hb2 hb1
    have hal : acc.length ≤ 2 * s.size := by
      have h1 := congrArg List.length Hacc.out
      rw [List.length_append] at h1
      have h2 := Henc.out
      omega
    by_cases hlt : (k : Int) < (s.size : Int)
    · obtain ⟨c0, c1, c2⟩ := hP.cell k (by rw [Sq.tab_length, ← Hl.out]; omega)
      rw [Sq.tab_drop k s.data.toList (by rw [← Hl.out]; omega)] at c0 c1 c2
      have hex : (s.extract k s.size).data.toList = s.data.toList.drop k := by rw [extract_list, Hl.out, List.take_length]
      obtain ⟨x, r, hxr⟩ : ∃ x r, s.data.toList.drop k = x :: r := by
        cases hd : s.data.toList.drop k with
        | nil => have := congrArg List.length hd; rw [List.length_drop, ← Hl.out] at this; simp at this; omega
        | cons x r => exact ⟨x, r, rfl⟩
      have hrl : r.length + 1 = s.size - k := by have := congrArg List.length hxr; rw [List.length_drop, ← Hl.out] at this; simpa using this.symm
      have hwr := fun (W : World) (hW : IsB w1.heap.size w1.heap.size acc W) (hW2 : w1.heap.size ≤ W.heap.size) => write_any w1.heap.size w1.heap.size acc (s.extract k s.size) x r W hW (by omega) hW2 (by rw [hex, hxr])
      rw [hxr] at hex c0 c1 c2
      have hpi := Sq.plan_is x r
      have Hw : Hid _ := hwr
      have Hxr : Hid _ := hxr
      clear hwr hex hxr
      obtain ⟨p1, p2, p3, p4, p5⟩ := hpi
      have Hp45 : Hid _ := And.intro p4 p5
      clear p4 p5
      go_upto_block 1 with fail
      go_cut [] (fun wx => IsB w1.heap.size w1.heap.size (acc ++ Sq.first (Sq.plan (x :: r)) (x :: r)) wx ∧ Plans w.heap.size (Sq.tab s.data.toList) wx ∧ Below w.heap.size w wx ∧ w1.heap.size ≤ wx.heap.size)
      case first =>
        go_wp2_with fail
        go_region_with (go_at_call 24; refine (Hw.out _ ?_ ?_).mono ?_; exact hI; exact hsz; rintro e w3 ⟨rfl, hI3, hb3⟩)
        all_goals
          go_wp2_with fail
          go_meet
          have hm := hb3.mono (Nat.le_of_lt hlt1)
          exact ⟨hI3, (hb3.block _ hlt1).trans hP, Below.trans (by first | exact hb | exact hb.drew | exact below_drewN hb _) hm, Nat.le_trans hsz hb3.size⟩
      case rest =>
        obtain ⟨hI4, hP4, hb4, hsz4⟩ := hcut
        clear c0 c1 c2 hI hP hb hsz
        have c2 := (hP4.cell k (by rw [Sq.tab_length, ← Hl.out]; omega)).2.2
        rw [Sq.tab_drop k s.data.toList (by rw [← Hl.out]; omega), Hxr.out] at c2
        go_wp2
        go_roundg (s.size - (k + (Sq.plan (x :: r)).size))
        case measure => omega
        case rel =>
          refine ⟨k + (Sq.plan (x :: r)).size, f - 1, acc ++ Sq.first (Sq.plan (x :: r)) (x :: r), by go_num, by omega, rfl, by omega, ?_, hI4, hP4, hb4, hsz4⟩
          rw [Hid, ← Hacc.out, ← List.drop_drop, Hxr.out]
          obtain ⟨f', rfl⟩ : ∃ f', f = f' + 1 := ⟨f - 1, by omega⟩
          rw [Sq.enc, if_neg (by simp), Nat.add_sub_cancel, List.append_assoc]
    · have hnil : s.data.toList.drop k = [] := List.drop_eq_nil_of_le (by rw [← Hl.out]; omega)
      have hE : acc = E := by have := Hacc.out; rw [hnil, Sq.enc_nil, List.append_nil] at this; exact this
      subst hE
      clear hnil
      go_wp2_with fail
      refine (bString _ _ acc _ hI hsz).mono ?_
      rintro e w3 ⟨rfl, _, hb3⟩
      go_wp2
      go_ret
      exact ⟨rfl, hb.trans (hb3.mono (by omega))⟩
end Go.Proofs.YtpibpdpedjinhaaDoor
