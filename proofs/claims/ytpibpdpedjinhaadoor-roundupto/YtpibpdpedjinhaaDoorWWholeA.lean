/- The walk of item.each; what a round of item.whole leaves: one more item in a row of the call's own. -/
import Derived.Test.YtpibpdpedjinhaaDoorWEach
import Derived.Test.YtpibpdpedjinhaaDoorWTree2
import Derived.RangeFuncBox
import Derived.Shelf.RegionOpen
namespace Go.Proofs.YtpibpdpedjinhaaDoor
open Go.RowKit Go.Joins Go.Shelf
attribute [local go_sem] Oper.semAt_some

set_option maxRecDepth 100000 in
set_option maxHeartbeats 1000000 in
theorem each_any (s : ByteArray) (deep : Int) (w : World) :
    Calls Tryd.prog 32 #[.string s, .int .i64 deep] w fun e w' => e = .returned (.func (.func 46) #[] #[.pointer (some ⟨w.heap.size, 0, none⟩), .pointer (some ⟨w.heap.size + 1, 0, none⟩)]) ∧ w' = (w.alloc (.cells #[.string s] 9)).alloc (.cells #[.int .i64 deep] 3) := by
  go_enter Tryd.func32, Tryd.ntmps32
  go_wp2_with fail
  go_ret
  exact ⟨rfl, rfl⟩

/-- the items of a list, or none, as two results -/
def GotAll (n lo : Nat) (w' : World) (e : Ending) : Option (List Im.It) → Prop
  | none => e = .returned (.tuple #[.slice none 0 0, .bool false])
  | some ks => ∃ a cap, e = .returned (.tuple #[.slice a ks.length cap, .bool true]) ∧ Row w' n lo w'.heap.size (.slice a ks.length cap) ks

/-- between two rounds: the row of the items so far, and where the last one's code ended -/
def WI (d b0 : Nat) (w : World) (pre : List X) (W : World) : Prop :=
  (∃ v, Boxed W b0 22 v ∧ Row W (d + 1) (b0 + 4) W.heap.size v (pre.map X.i)) ∧ Boxed W (b0 + 1) 3 (.int .i64 (lastE pre)) ∧ Below b0 w W ∧ b0 + 4 ≤ W.heap.size
theorem WI.own (d b0 : Nat) (w : World) : OwnFrom (b0 + 4) (WI d b0 w) := by
  rintro pre A B row ⟨⟨v, h1, h2⟩, h3, h4, h5⟩ hg hr
  refine ⟨⟨v, h1.kept hg (fun e => ?_), h2.turn hg (fun r e => (hr r e).2)⟩, h3.kept hg (fun e => ?_), h4.grown hg (by omega) (fun k e => by have := (hr k e).1; omega), by have := hg.size; omega⟩
  · have := (hr _ e.symm).1; omega
  · have := (hr _ e.symm).1; omega

theorem setCell_comm (w : World) {a b : Addr} (x y : Value) (h : a.block ≠ b.block) : (w.setCell a x).setCell b y = (w.setCell b y).setCell a x := by
  have e : ∀ (A : Array Obj) (f g : Obj → Obj) (i j : Nat), i ≠ j → (A.modify i f).modify j g = (A.modify j g).modify i f := by
    intro A f g i j hij
    apply Array.ext_getElem?
    intro k
    simp only [Array.getElem?_modify]
    by_cases h1 : i = k
    · subst h1
      rw [if_neg (Ne.symm hij)]
      simp [Ne.symm hij]
    · by_cases h2 : j = k
      · subst h2
        simp [h1]
      · simp [h1, h2]
  simp only [World.setCell]
  rw [e _ _ _ _ _ h]
theorem set3_box (w : World) {g B i : Nat} (x y z u : Value) (h : B ≠ g) : (((w.setCell ⟨B, 0, none⟩ u).setCell ⟨g, i, none⟩ x).setCell ⟨g, i + 1, none⟩ y).setCell ⟨g, i + 2, none⟩ z = (((w.setCell ⟨g, i, none⟩ x).setCell ⟨g, i + 1, none⟩ y).setCell ⟨g, i + 2, none⟩ z).setCell ⟨B, 0, none⟩ u := by
  rw [setCell_comm w u x h, setCell_comm _ u y h, setCell_comm _ u z h]
theorem boxed_other {W : World} {B : Nat} {t : TypeId} {v : Value} (h : Boxed W B t v) (a : Addr) (x : Value) (hne : B ≠ a.block) : Boxed (W.setCell a x) B t v := (Below.heap_setCell _ _ _ _ hne).trans h

/-- behind a round of item.whole -/
theorem whole_end {w W0 W1 G U w' F : World} {d B0 g cap' : Nat} {pre : List X} {x : X} {xs : List Value} {L H : Nat → Nat} {v c0 c1 c2 z0 z1 z2 : Value} {N : Nat} (h0 : 0 < B0)
    (hbw : Below B0 w W0) (hsz : B0 + 4 ≤ W0.heap.size) (b0 : Boxed W0 B0 22 v) (b1 : Boxed W0 (B0 + 1) 3 (.int .i64 (lastE pre)))
    (q1 : W0.ownsRow (B0 + 4) 24 3 v pre.length xs)
    (q3 : ∀ j, j < (pre.map X.i).length → B0 + 4 ≤ L j ∧ L j ≤ H j ∧ H j ≤ W0.heap.size ∧ (∀ g, v.ownBlock = some g → g < L j ∨ H j ≤ g)) (q4 : ∀ a b, a < b → b < (pre.map X.i).length → H a ≤ L b)
    (q5 : ∀ (j : Nat) (hj : j < (pre.map X.i).length), ∃ d0 d1 d2, xs[j * 3]? = some d0 ∧ xs[j * 3 + 1]? = some d1 ∧ xs[j * 3 + 2]? = some d2 ∧ Tr W0 (d + 1) (L j) (H j) d0 d1 d2 ((pre.map X.i)[j]))
    (hb : Below W0.heap.size W0 W1) (ht : Tr W1 (d + 1) W0.heap.size W1.heap.size c0 c1 c2 x.i) (gb : Below W1.heap.size W1 G) (ub : Below G.heap.size G U)
    (hown' : w'.ownsRow (B0 + 4) 24 3 (.slice (some ⟨g, 0, none⟩) (pre.length + 1) cap') (pre.length + 1) (xs ++ [z0, z1, z2]))
    (hgr : U.grownBy w' v.ownBlock) (hat : Value.ownBlock (.slice (some ⟨g, 0, none⟩) (pre.length + 1) cap') = v.ownBlock ∨ ∃ g', Value.ownBlock (.slice (some ⟨g, 0, none⟩) (pre.length + 1) cap') = some g' ∧ U.heap.size ≤ g')
    (hF : F = ((((w'.setCell ⟨g, pre.length * 3, none⟩ c0).setCell ⟨g, pre.length * 3 + 1, none⟩ c1).setCell ⟨g, pre.length * 3 + 2, none⟩ c2).setCell ⟨B0, 0, none⟩ (.slice (some ⟨g, 0, none⟩) (pre.length + 1) cap')).setCell ⟨B0 + 1, 0, none⟩ (.int .i64 x.e)) :
    KeepsFrom N G F ∧ (∀ k, k = 0 ∨ k = B0 + 1 + 1 ∨ k = B0 + 1 + 1 + 1 → F.heap[k]? = G.heap[k]?) ∧ WI d B0 w (pre ++ [x]) F := by
  have s1 := hb.size
  have s2 := gb.size
  have s3 := ub.size
  have s4 := hgr.size
  have hxl := xs_len q1
  have gb0 : Below W0.heap.size W0 G := hb.trans (gb.mono s1)
  have ub0 : Below W0.heap.size W0 U := gb0.trans (ub.mono (by omega))
  have qU : U.ownsRow (B0 + 4) 24 3 v pre.length xs := own_below q1 ub0
  have hob : ∀ m, v.ownBlock = some m → B0 + 4 ≤ m := fun m hm => (own_lt q1 hm).1
  have hg := own_lt hown' (g := g) rfl
  obtain ⟨W4, hW4⟩ : ∃ W4 : World, W4 = ((w'.setCell ⟨g, pre.length * 3, none⟩ c0).setCell ⟨g, pre.length * 3 + 1, none⟩ c1).setCell ⟨g, pre.length * 3 + 2, none⟩ c2 := ⟨_, rfl⟩
  have own4 : W4.ownsRow (B0 + 4) 24 3 (.slice (some ⟨g, 0, none⟩) (pre.length + 1) cap') (pre.length + 1) (xs ++ [c0, c1, c2]) := by rw [hW4]; exact own_set3 hown' hxl _ _ _
  have s5 : W4.heap.size = w'.heap.size := by rw [hW4]; simp [World.setCell]
  have blk4 : ∀ k, k ≠ g → W4.heap[k]? = w'.heap[k]? := fun k hk => by
    rw [hW4, Below.heap_setCell _ _ _ _ hk, Below.heap_setCell _ _ _ _ hk, Below.heap_setCell _ _ _ _ hk]
  have gr4 : U.grownBy W4 v.ownBlock := ⟨by rw [hW4]; exact hgr.os, by rw [hW4]; exact hgr.tape, by rw [hW4]; exact hgr.output, by omega, fun k hk hne => by
    rw [blk4 k ?_]
    · exact hgr.block k hk hne
    · rintro rfl
      rcases hat with e | ⟨g', e, hge⟩
      · exact hne e
      · simp [Value.ownBlock] at e; omega⟩
  have hlm : (pre.map X.i).length = pre.length := by simp
  have row4 : Row W4 (d + 1) (B0 + 4) W4.heap.size (.slice (some ⟨g, 0, none⟩) (pre.length + 1) cap') (pre.map X.i ++ [x.i]) :=
    Row.step (w := W0) (w1 := W1) (w3 := U) (v := v) (xs := xs) (L := L) (H := H) (by omega) (by rw [hlm]; exact q1) q3 q4 q5 ht hb (gb.trans (ub.mono s2)) (by rw [hlm]; exact own4) gr4 hat
  rw [← hW4] at hF
  have blkF : ∀ k, k ≠ B0 → k ≠ B0 + 1 → F.heap[k]? = W4.heap[k]? := fun k h1 h2 => by
    rw [hF, Below.heap_setCell _ _ _ _ h2, Below.heap_setCell _ _ _ _ h1]
  have s6 : F.heap.size = W4.heap.size := by rw [hF]; simp [World.setCell]
  have e0 : Boxed w' B0 22 v := (hgr.block _ (by omega) (fun e => by have := hob _ e.symm; omega)).trans ((ub0.block _ (by omega)).trans b0)
  have e1 : Boxed w' (B0 + 1) 3 (.int .i64 (lastE pre)) := (hgr.block _ (by omega) (fun e => by have := hob _ e.symm; omega)).trans ((ub0.block _ (by omega)).trans b1)
  have f0 : Boxed W4 B0 22 v := (blk4 _ (by omega)).trans e0
  have f1 : Boxed W4 (B0 + 1) 3 (.int .i64 (lastE pre)) := (blk4 _ (by omega)).trans e1
  refine ⟨KeepsOthers.from ?_ _, ?_, ⟨(.slice (some ⟨g, 0, none⟩) (pre.length + 1) cap'), ?_, ?_⟩, ?_, ?_, by omega⟩
  · have k1 : KeepsOthers G U := ⟨ub.size, fun k o hk _ => (ub.block k (Array.getElem?_eq_some_iff.1 hk).1).trans hk⟩
    have k2 : KeepsOthers U w' := KeepsOthers.of_grownBy hgr (fun j o ej hj => owns_cells qU j o ej hj)
    rw [hF, hW4]
    exact (k1.trans k2).trans (((((KeepsOthers.setCell _ _ _).trans (KeepsOthers.setCell _ _ _)).trans (KeepsOthers.setCell _ _ _)).trans (KeepsOthers.setCell _ _ _)).trans (KeepsOthers.setCell _ _ _))
  · intro k hk
    have hk4 : k < B0 + 4 := by omega
    rw [blkF k (by omega) (by omega), blk4 k (by omega), hgr.block k (by omega) (fun e => by have := hob _ e.symm; omega), ub.block k (by omega)]
  · rw [hF]; exact boxed_other (f0.set _) _ _ (by simp)
  · rw [List.map_append]
    exact (row4.kept (w' := F) (fun k k1 k2 => blkF k (by omega) (by omega))).wider (Nat.le_refl _) (by omega)
  · rw [hF, lastE_snoc]; exact (boxed_other f1 _ _ (by simp)).set _
  · have b5 : Below B0 w w' := (hbw.trans (ub0.mono (by omega))).grown hgr (by omega) (fun m hm => by have := hob m hm; omega)
    rw [hF, hW4]
    exact ((((b5.setCell (by show B0 ≤ g; omega) _).setCell (by show B0 ≤ g; omega) _).setCell (by show B0 ≤ g; omega) _).setCell (Nat.le_refl _) _).setCell (by show B0 ≤ B0 + 1; omega) _
end Go.Proofs.YtpibpdpedjinhaaDoor
