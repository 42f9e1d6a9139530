/- For all items and texts of bulk at most 1048576 together, with the table of heads as the program's text lays it, tributarykeep.Round returns true: what is coded comes back, a byte more or fewer is none, what is squeezed comes back. -/
import Derived.Test.YtpibpdpedjinhaaDoorWDecode
import Derived.Test.YtpibpdpedjinhaaDoorWSqueeze2D
import Derived.Test.YtpibpdpedjinhaaDoorRoundM
namespace Go.Proofs.YtpibpdpedjinhaaDoor
open Go.RowKit Go.Joins

def Im.catdog : Im.It := ⟨true, [], [⟨false, [99, 97, 116], []⟩, ⟨false, [100, 111, 103], []⟩]⟩
theorem enc_catdog : encV (Im.code 8 Im.catdog) = .tuple #[.string ⟨#[200, 131, 99, 97, 116, 131, 100, 111, 103]⟩, .int .i64 0] := by rfl
theorem in_catdog (w : World) (b cap : Nat) (h : w.heap[b]? = some (.cells #[.bool false, .string ⟨#[99, 97, 116]⟩, .slice none 0 0, .bool false, .string ⟨#[100, 111, 103]⟩, .slice none 0 0] 24 (0, 0))) :
    In w.heap.size w 2 (.bool true) (.string ⟨#[]⟩) (.slice (some ⟨b, 0, none⟩) 2 cap) Im.catdog := by
  refine ⟨rfl, rfl, _, _, rfl, fun _ => ⟨b, 0, rfl, (Array.getElem?_eq_some_iff.1 h).1, ?_⟩⟩
  intro j hj
  have hj : j < 2 := hj
  match j, hj with
  | 0, _ => exact ⟨.bool false, .string ⟨#[99, 97, 116]⟩, .slice none 0 0, ⟨by rw [Lib.cell_of_heap h]; rfl, by rw [Lib.cell_of_heap h]; rfl, by rw [Lib.cell_of_heap h]; rfl⟩, rfl, rfl, none, 0, rfl, fun h => absurd rfl h⟩
  | 1, _ => exact ⟨.bool false, .string ⟨#[100, 111, 103]⟩, .slice none 0 0, ⟨by rw [Lib.cell_of_heap h]; rfl, by rw [Lib.cell_of_heap h]; rfl, by rw [Lib.cell_of_heap h]; rfl⟩, rfl, rfl, none, 0, rfl, fun h => absurd rfl h⟩

set_option maxRecDepth 100000 in
set_option maxHeartbeats 2000000 in
theorem round_walk (n D : Nat) (i : Im.It) (c0 c1 c2 : Value) (s : ByteArray) (w : World) (hD : D ≤ w.heap.size) (hw : Im.wt n i ≤ 1048576) (hs : s.size ≤ 1048576) (hH : Heads w) (h : In D w n c0 c1 c2 i) :
    Calls Tryd.prog 5 #[.agg #[c0, c1, c2], .string s] w fun e w' => e = .returned (.bool true) ∧ Below w.heap.size w w' := by
  have hdp := In.dp _ _ _ _ _ h
  have h0 := hH.pos
  have hin := h
  obtain ⟨a, cap, rfl, rfl, rfl⟩ := h.shape
  clear h
  obtain ⟨S, hS⟩ : ∃ S : ByteArray, (⟨i.bytes.toArray⟩ : ByteArray) = S := ⟨_, rfl⟩
  rw [hS] at hin ⊢
  have HS : Hid _ := hS
  clear hS
  have Hin : Hid (In D w n (.bool i.list) (.string S) (.slice a i.kids.length cap) i) := hin
  have Hdp : Hid (Im.dp n i) := hdp
  have HH : Hid (Heads w) := hH
  clear hin hdp hH
  go_enter Tryd.func5, Tryd.ntmps5
  go_wp2_with fail
  obtain ⟨X, hX⟩ : ∃ X : World, X = (w.alloc (.cells #[.bool i.list, .string S, .slice a i.kids.length cap] 24)).alloc (.cells #[.bool false, .string ⟨#[99, 97, 116]⟩, .slice none 0 0, .bool false, .string ⟨#[100, 111, 103]⟩, .slice none 0 0] 24) := ⟨_, rfl⟩
  have hXs : X.heap.size = w.heap.size + 2 := by rw [hX]; simp
  have hX0 : X.heap[w.heap.size]? = some (.cells #[.bool i.list, .string S, .slice a i.kids.length cap] 24 (0, 0)) := by rw [hX, Below.heap_alloc _ _ _ (by simp)]; exact heap_alloc_new _ _
  have hX1 : X.heap[w.heap.size + 1]? = some (.cells #[.bool false, .string ⟨#[99, 97, 116]⟩, .slice none 0 0, .bool false, .string ⟨#[100, 111, 103]⟩, .slice none 0 0] 24 (0, 0)) := by
    rw [hX]
    have := heap_alloc_new (w.alloc (.cells #[.bool i.list, .string S, .slice a i.kids.length cap] 24)) (.cells #[.bool false, .string ⟨#[99, 97, 116]⟩, .slice none 0 0, .bool false, .string ⟨#[100, 111, 103]⟩, .slice none 0 0] 24)
    rw [World.size_alloc] at this
    exact this
  have hXb : Below w.heap.size w X := by rw [hX]; exact ((Below.refl _ w).alloc (Nat.le_refl _) _).alloc (by simp) _
  rw [← hX]
  clear hX
  refine (encode_any 2 X.heap.size Im.catdog _ _ _ X (Nat.le_refl _) (by decide) (HH.out.below hXb h0) (in_catdog X _ _ hX1)).mono ?_
  rintro e w1 ⟨rfl, hb1⟩
  rw [enc_catdog]
  have s1 := hb1.size
  have hx1 := (hb1.block w.heap.size (by omega)).trans hX0
  have hbw1 : Below w.heap.size w w1 := hXb.trans (hb1.mono (by omega))
  clear hX0 hX1 hXb hb1
  -- what is squeezed
  have hl := Lib.size_eq s
  have hmost := Sq.plan_most s.data.toList
  have henc := Sq.enc_length s.size s.data.toList (by omega)
  rw [← henc, ← hl] at hmost
  have hse := Sq.spread_enc s.size s.data.toList (Sq.enc s.size s.data.toList).length s.size [] (by omega) (Nat.le_refl _) (by rw [List.length_nil]; omega)
  have hsc := fun h1 h2 => Sq.spread_cut s.size s.data.toList (Sq.enc s.size s.data.toList).length ((s.size : Int) - 1) [] (by omega) (Nat.le_refl _) h1 h2
  rw [List.nil_append] at hse
  simp only [List.nil_append, List.length_nil] at hsc
  have hSq := squeeze_any s w1 hs
  generalize hE : Sq.enc s.size s.data.toList = E at *
  obtain ⟨EB, hEB⟩ : ∃ EB : ByteArray, (⟨E.toArray⟩ : ByteArray) = EB := ⟨_, rfl⟩
  have hEs : EB.size = E.length := by rw [← hEB, Lib.size_eq]
  have hEl : EB.data.toList = E := by rw [← hEB]
  have hEq : EB.size ≤ 2097152 := by omega
  have hEi : ¬ (s.size : Int) + ((s.size : Int) + 127) / 128 < (EB.size : Int) := by omega
  rw [hEB] at hSq
  rw [← hEs, ← hEl] at hse hsc
  clear henc hmost hE hEs hEl hl
  have Hse : Hid _ := hse
  have Hsc : Hid _ := hsc
  have HSq : Hid _ := hSq
  clear hse hsc hSq
  go_wp2_with fail
  refine Calls.mono HSq.out ?_
  rintro e w2 ⟨rfl, hb2⟩
  have s2 := hb2.size
  have hx2 := (hb2.block w.heap.size (by omega)).trans hx1
  have hbw2 := hbw1.trans (hb2.mono (by omega))
  clear hx1 hbw1 hb2 HSq
  go_wp2_with fail
  refine (spread_any EB s.size w2 hEq (by omega) (by omega)).mono ?_
  rintro e w3 ⟨rfl, hb3⟩
  rw [Hse.out]
  have s3 := hb3.size
  have hx3 := (hb3.block w.heap.size (by omega)).trans hx2
  have hbw3 := hbw2.trans (hb3.mono (by omega))
  clear hx2 hbw2 hb3
  simp only
  rw [mk_list]
  go_wp2_with fail
  refine (spread_any EB ((s.size : Int) - 1) w3 hEq (by omega) (by omega)).mono ?_
  rintro e w4 ⟨rfl, hb4⟩
  have s4 := hb4.size
  have hx4 := (hb4.block w.heap.size (by omega)).trans hx3
  have hbw4 := hbw3.trans (hb4.mono (by omega))
  clear hx3 hbw3 hb4
  have hcut : 0 < s.size → Sq.spread EB.size EB.data.toList ((s.size : Int) - 1) [] = ((s.extract 0 ((s.size : Int) - 1).toNat).data.toList, false) := by
    intro hp
    rw [Hsc.out (by omega) (by rw [← Lib.size_eq]; omega), ext_list]
    simp
  generalize hR2 : Sq.spread EB.size EB.data.toList ((s.size : Int) - 1) [] = R2
  rw [hR2] at hcut
  obtain ⟨r1, r2⟩ := R2
  simp only [Prod.mk.injEq] at hcut ⊢
  obtain ⟨UB, hUB⟩ : ∃ UB : ByteArray, (⟨r1.toArray⟩ : ByteArray) = UB := ⟨_, rfl⟩
  have hcut2 : 0 < s.size → UB = s.extract 0 ((s.size : Int) - 1).toNat ∧ r2 = false := by
    intro hp
    obtain ⟨rfl, rfl⟩ := hcut hp
    exact ⟨by rw [← hUB], rfl⟩
  rw [hUB]
  have Hcut : Hid _ := hcut2
  clear hcut hcut2 hR2 hUB Hsc Hse hEB
  have z0 : w4.cell? ⟨w.heap.size, 0, none⟩ = some (.bool i.list) := by rw [Lib.cell_of_heap hx4]; rfl
  have z1 : w4.cell? ⟨w.heap.size, 1, none⟩ = some (.string S) := by rw [Lib.cell_of_heap hx4]; rfl
  have z2 : w4.cell? ⟨w.heap.size, 2, none⟩ = some (.slice a i.kids.length cap) := by rw [Lib.cell_of_heap hx4]; rfl
  have Hx4 : Hid _ := hx4
  clear hx4
  -- the item's code
  have hcode := encode_any n D i _ _ _ w4 (by omega) (by omega) (HH.out.below hbw4 h0) (In.below (hbw4.mono hD) _ _ _ _ _ Hin.out)
  have Hcode : Hid _ := hcode
  clear hcode
  by_cases hz : s.size = 0
  case' pos =>
    have hz1 : ¬ (0 : Int) < (s.size : Int) := by omega
    go_wp2_with fail
  case' neg =>
    obtain ⟨rfl, rfl⟩ := Hcut.out (by omega)
    have hz1 : (0 : Int) < (s.size : Int) := by omega
    have hz2 : (0 : Int) ≤ (s.size : Int) - 1 := by omega
    go_wp2_with fail
  all_goals
    clear z0 z1 z2
    refine Calls.mono Hcode.out ?_
    rintro e w5 ⟨rfl, hb5⟩
    have s5 := hb5.size
    have hbw5 := hbw4.trans (hb5.mono (by omega))
    cases hc : Im.code 8 i with
    | none =>
      simp only [encV]
      go_wp2_with fail
      go_ret
      exact ⟨rfl, hbw5⟩
    | some c =>
      simp only [encV]
      have hcl := Im.code_len n 8 i c Hdp.out (by omega) hc
      have hcl2 : c.length ≤ 6291456 := by omega
      have hd1 := Im.dec_code hc (by omega)
      have hd2 := Im.dec_more hc (by omega) 1
      have hd3 := Im.dec_fewer hc (by omega)
      have hc1 := (Im.read_code Im.body (fun _ _ h => h) 8 i c [] hc (by omega)).2
      obtain ⟨CB, hCB⟩ : ∃ CB : ByteArray, (⟨c.toArray⟩ : ByteArray) = CB := ⟨_, rfl⟩
      have hCs : CB.size = c.length := by rw [← hCB, Lib.size_eq]
      have hCl : CB.data.toList = c := by rw [← hCB]
      rw [hCB]
      have hdec := decode_any CB w5 (by omega) (HH.out.below hbw5 h0)
      rw [hCl, hd1] at hdec
      have Hc : Hid _ := hc
      have Hd2 : Hid _ := hd2
      have Hd3 : Hid _ := hd3
      have Hdec : Hid _ := hdec
      have HCl : Hid _ := hCl
      clear hc hd1 hd2 hd3 hdec hcl hCB hCl
      go_wp2_with fail
      refine Calls.mono Hdec.out ?_
      rintro e w6 ⟨⟨a6, cap6, rfl, ht6⟩, hb6⟩
      rw [HS.out] at ht6 ⊢
      have s6 := hb6.size
      have hbw6 := hbw5.trans (hb6.mono (by omega))
      obtain ⟨Y, hY⟩ : ∃ Y : World, Y = w6.alloc (.cells #[.bool i.list, .string S, .slice a6 i.kids.length cap6] 24) := ⟨_, rfl⟩
      have hYs : Y.heap.size = w6.heap.size + 1 := by rw [hY]; simp
      have hYb : Below w6.heap.size w6 Y := by rw [hY]; exact (Below.refl _ _).alloc (Nat.le_refl _) _
      have hbwY := hbw6.trans (hYb.mono (by omega))
      have hin6 : In w6.heap.size Y 9 (.bool i.list) (.string S) (.slice a6 i.kids.length cap6) i := In.below hYb _ _ _ _ _ (Tr.inn 9 _ _ _ _ _ _ (Nat.le_refl _) ht6)
      have hw9 : Im.wt 9 i ≤ 1048576 := by
        have e1 := (Im.wt_any 9 i (In.dp _ _ _ _ _ hin6) n).2
        have e2 := (Im.wt_any n i Hdp.out 9).2
        rw [Nat.add_comm] at e2
        omega
      have henc6 := encode_any 9 w6.heap.size i _ _ _ Y (by omega) (by omega) (HH.out.below hbwY h0) hin6
      rw [Hc.out] at henc6
      have Henc6 : Hid _ := henc6
      clear henc6 hin6 ht6 hYb
      go_wp2_with fail
      rw [← hY]
      refine Calls.mono Henc6.out ?_
      rintro e w7 ⟨rfl, hb7⟩
      have s7 := hb7.size
      have hbw7 := hbwY.trans (hb7.mono (by omega))
      simp only [encV]
      have hCB : (⟨c.toArray⟩ : ByteArray) = CB := by rw [← HCl.out]
      rw [hCB]
      clear hY
      have hl1 : (CB ++ (⟨#[1]⟩ : ByteArray)).data.toList = c ++ [1] := by rw [ba_append, HCl.out]
      have hdec2 := decode_any (CB ++ (⟨#[1]⟩ : ByteArray)) w7 (by rw [Lib.size_eq, hl1]; simp; omega) (HH.out.below hbw7 h0)
      rw [hl1, Hd2.out] at hdec2
      have Hdec2 : Hid _ := hdec2
      clear hdec2 hl1
      go_wp2_with fail
      refine Calls.mono Hdec2.out ?_
      rintro e w8 ⟨hg8, hb8⟩
      obtain rfl := hg8
      have s8 := hb8.size
      have hbw8 := hbw7.trans (hb8.mono (by omega))
      obtain ⟨Z, hZ⟩ : ∃ Z : World, Z = w8.alloc (.cells #[.bool false, .string ⟨#[]⟩, .slice none 0 0] 24) := ⟨_, rfl⟩
      have hbwZ : Below w.heap.size w Z := by rw [hZ]; exact hbw8.alloc hbw8.size _
      have hl2 : (CB.extract 0 (c.length - 1)).data.toList = c.take (c.length - 1) := by
        rw [ext_list, HCl.out]
        simp
      have hdec3 := decode_any (CB.extract 0 (c.length - 1)) Z (by rw [Lib.size_eq, hl2]; simp; omega) (HH.out.below hbwZ h0)
      rw [hl2, Hd3.out] at hdec3
      have Hdec3 : Hid _ := hdec3
      clear hdec3 hl2
      have hcz1 : (0 : Int) ≤ (CB.size : Int) - 1 := by omega
      have hcz2 : (CB.size : Int) ≤ 9223372036854775807 := by omega
      go_wp2_with fail
      rw [← hZ]
      refine Calls.mono Hdec3.out ?_
      rintro e w9 ⟨hg9, hb9⟩
      obtain rfl := hg9
      have hbw9 := hbwZ.trans (hb9.mono hbwZ.size)
      clear hZ
      go_wp2_with fail
      go_ret
      exact ⟨rfl, hbw9.alloc hbw9.size _⟩
end Go.Proofs.YtpibpdpedjinhaaDoor
