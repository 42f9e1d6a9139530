/- For all items of bulk at most 1048576, with the table of heads as the program's text lays it, tributarylaw.Encodes returns true and leaves its argument as it reads: Encode gives the document's code, or its error, and what was handed in stays as it is. -/
import Derived.Test.YtpibpdpedjinhaaDoorWOwn3
namespace Go.Proofs.YtpibpdpedjinhaaDoor
open Go.RowKit Go.Joins

set_option maxRecDepth 100000 in
set_option maxHeartbeats 1000000 in
theorem encodes_walk (n D : Nat) (i : Im.It) (c0 c1 c2 : Value) (w : World) (hD : D ≤ w.heap.size) (hw : Im.wt n i ≤ 2097152) (hH : Heads w) (h : In D w n c0 c1 c2 i) :
    Calls Tryd.prog 3 #[.agg #[c0, c1, c2]] w fun e w' => e = .returned (.bool true) ∧ Below w.heap.size w w' := by
  have hdp := In.dp _ _ _ _ _ h
  have h0 := hH.pos
  have hin := h
  obtain ⟨a, cap, rfl, rfl, rfl⟩ := h.shape
  clear h
  obtain ⟨S, hS⟩ : ∃ S : ByteArray, (⟨i.bytes.toArray⟩ : ByteArray) = S := ⟨_, rfl⟩
  rw [hS] at hin ⊢
  have HS : Hid _ := hS
  clear hS
  have Hin : Hid (In D w n (.bool i.list) (.string S) (.slice a i.kids.length cap) i) := hin
  have Hdp : Hid (Im.dp n i) := hdp
  have HH : Hid (Heads w) := hH
  clear hin hdp hH
  go_enter Tryd.func3, Tryd.ntmps3
  go_wp2_with fail
  obtain ⟨X, hX⟩ : ∃ X : World, X = w.alloc (.cells #[.bool i.list, .string S, .slice a i.kids.length cap] 24) := ⟨_, rfl⟩
  have hXs : X.heap.size = w.heap.size + 1 := by rw [hX]; simp
  have hX0 : X.heap[w.heap.size]? = some (.cells #[.bool i.list, .string S, .slice a i.kids.length cap] 24 (0, 0)) := by rw [hX]; exact heap_alloc_new _ _
  have hXb : Below w.heap.size w X := by rw [hX]; exact (Below.refl _ w).alloc (Nat.le_refl _) _
  rw [← hX]
  clear hX
  refine (own_any n D i _ _ _ X (by omega) hw (In.below (hXb.mono hD) _ _ _ _ _ Hin.out)).mono ?_
  rintro e w1 ⟨d0, d1, d2, rfl, ho1, hb1⟩
  obtain ⟨g1, cap1, rfl, rfl, rfl⟩ := ho1.shape
  have s1 := hb1.size
  have hx1 := (hb1.block w.heap.size (by omega)).trans hX0
  have hbw1 := hXb.trans (hb1.mono (by omega))
  rw [HS.out] at ho1 ⊢
  have Ho1 : Hid _ := ho1
  have Hx1 : Hid _ := hx1
  clear ho1 hx1 hX0 hb1
  go_upto_region 2 with fail
  obtain ⟨Y, hY⟩ : ∃ Y : World, Y = w1.alloc (.cells #[.bool i.list, .string S, .slice (some ⟨g1, 0, none⟩) i.kids.length cap1] 24) := ⟨_, rfl⟩
  have hYs : Y.heap.size = w1.heap.size + 1 := by rw [hY]; simp
  have hY0 : Y.heap[w1.heap.size]? = some (.cells #[.bool i.list, .string S, .slice (some ⟨g1, 0, none⟩) i.kids.length cap1] 24 (0, 0)) := by rw [hY]; exact heap_alloc_new _ _
  have hY1 : Y.heap[w.heap.size]? = some (.cells #[.bool i.list, .string S, .slice a i.kids.length cap] 24 (0, 0)) := by rw [hY, Below.heap_alloc _ _ _ (by omega)]; exact Hx1.out
  have hYb : Below w1.heap.size w1 Y := by rw [hY]; exact (Below.refl _ w1).alloc (Nat.le_refl _) _
  rw [← hY]
  clear hY
  have hoY : Own Y n X.heap.size w1.heap.size (.bool i.list) (.string S) (.slice (some ⟨g1, 0, none⟩) i.kids.length cap1) i := Own.kept n _ _ _ _ _ _ (fun m _ m2 => hYb.block m m2) Ho1.out
  have hbwY := hbw1.trans (hYb.mono (by omega))
  -- the cells of the two variables, wherever what lies below Y's end stands
  have boxes : ∀ W : World, Below Y.heap.size Y W → (W.cell? ⟨w.heap.size, 0, none⟩ = some (.bool i.list) ∧ W.cell? ⟨w.heap.size, 1, none⟩ = some (.string S) ∧ W.cell? ⟨w.heap.size, 2, none⟩ = some (.slice a i.kids.length cap)) ∧
      (W.cell? ⟨w1.heap.size, 0, none⟩ = some (.bool i.list) ∧ W.cell? ⟨w1.heap.size, 1, none⟩ = some (.string S) ∧ W.cell? ⟨w1.heap.size, 2, none⟩ = some (.slice (some ⟨g1, 0, none⟩) i.kids.length cap1)) := by
    intro W hW
    have z0 := (hW.block w.heap.size (by omega)).trans hY1
    have z1 := (hW.block w1.heap.size (by omega)).trans hY0
    refine ⟨⟨?_, ?_, ?_⟩, ?_, ?_, ?_⟩
    · rw [Lib.cell_of_heap z0]; rfl
    · rw [Lib.cell_of_heap z0]; rfl
    · rw [Lib.cell_of_heap z0]; rfl
    · rw [Lib.cell_of_heap z1]; rfl
    · rw [Lib.cell_of_heap z1]; rfl
    · rw [Lib.cell_of_heap z1]; rfl
  have inI : ∀ W : World, Below Y.heap.size Y W → In D W n (.bool i.list) (.string S) (.slice a i.kids.length cap) i := fun W hW => In.below ((hbwY.trans (hW.mono (by omega))).mono hD) _ _ _ _ _ Hin.out
  have ownO : ∀ W : World, Below Y.heap.size Y W → Own W n X.heap.size w1.heap.size (.bool i.list) (.string S) (.slice (some ⟨g1, 0, none⟩) i.kids.length cap1) i := fun W hW => Own.kept n _ _ _ _ _ _ (fun m _ m2 => hW.block m (by omega)) hoY
  have Boxes : Hid _ := boxes
  have InI : Hid _ := inI
  have OwnO : Hid _ := ownO
  clear boxes inI ownO hoY hY0 hY1 hYb hbw1 Ho1 Hx1
  have hbY := Below.refl Y.heap.size Y
  obtain ⟨⟨b0, b1, b2⟩, o0, o1, o2⟩ := Boxes.out Y hbY
  go_wp2_with fail
  refine (encode_any n w1.heap.size i _ _ _ Y (by omega) hw (HH.out.below hbwY h0) (Own.inn n _ _ _ _ _ _ (Nat.le_refl _) (OwnO.out Y hbY))).mono ?_
  rintro e w3 ⟨rfl, hb3⟩
  clear b0 b1 b2 o0 o1 o2
  obtain ⟨⟨b0, b1, b2⟩, o0, o1, o2⟩ := Boxes.out w3 hb3
  have s3 := hb3.size
  have hsame : ∀ (R : Option (List UInt8)), ∃ s x, encV R = .tuple #[.string s, .int .i64 x] := by
    intro R
    cases R with
    | none => exact ⟨_, _, rfl⟩
    | some c => exact ⟨_, _, rfl⟩
  obtain ⟨s, x, hsx⟩ := hsame (Im.code 8 i)
  have Hsx : Hid _ := hsx
  clear hsx hsame
  rw [Hsx.out]
  go_wp2_with fail
  refine (rencode_any n D i _ _ _ w3 (by have := hXb.size; omega) hw (InI.out w3 hb3)).mono ?_
  rintro e w4 ⟨rfl, hb4⟩
  have hb4' := hb3.trans (hb4.mono s3)
  clear b0 b1 b2 o0 o1 o2
  obtain ⟨⟨b0, b1, b2⟩, o0, o1, o2⟩ := Boxes.out w4 hb4'
  have s4 := hb4'.size
  rw [Hsx.out]
  go_wp2_with fail
  refine (same_any n w4.heap.size i _ _ _ _ _ _ w4 (Nat.le_refl _) hw (Own.inn n _ _ _ _ _ _ (by omega) (OwnO.out w4 hb4')) (In.mono (by omega) _ _ _ _ _ (InI.out w4 hb4'))).mono ?_
  rintro e w5 ⟨rfl, hb5⟩
  have hb5' := hb4'.trans (hb5.mono s4)
  clear b0 b1 b2 o0 o1 o2
  obtain ⟨⟨b0, b1, b2⟩, o0, o1, o2⟩ := Boxes.out w5 hb5'
  have s5 := hb5'.size
  go_wp2_with fail
  refine (spare_any n X.heap.size w1.heap.size i _ _ _ w5 (by omega) hw (OwnO.out w5 hb5') Hdp.out).mono ?_
  rintro e w6 ⟨rfl, ht6⟩
  have hb6 := (hbwY.trans (hb5'.mono (by omega))).trans (ht6.below (by omega) (by omega))
  clear b0 b1 b2 o0 o1 o2
  go_wp2_with fail
  go_ret
  exact ⟨rfl, hb6⟩
end Go.Proofs.YtpibpdpedjinhaaDoor
