/- The walks of item.Code, code.Encode and tributaryref.Encode: both Encodes give Im.code. -/
import Derived.Test.YtpibpdpedjinhaaDoorWMake3
namespace Go.Proofs.YtpibpdpedjinhaaDoor
open Go.RowKit Go.Joins

theorem Heads.pos {w : World} (h : Heads w) : 0 < w.heap.size := by
  have g := h.1.1
  rcases Nat.eq_zero_or_pos w.heap.size with e | e
  · unfold World.cell? at g
    rw [Array.getElem?_eq_none (by simp [e])] at g
    simp at g
  · exact e

set_option maxRecDepth 100000 in
set_option maxHeartbeats 1000000 in
theorem code_any (n D : Nat) (i : Im.It) (c0 c1 c2 : Value) (w : World) (hD : D ≤ w.heap.size) (hw : Im.wt n i ≤ 2097152) (hH : Heads w) (h : In D w n c0 c1 c2 i) :
    Calls Tryd.prog 17 #[.agg #[c0, c1, c2]] w fun e w' => e = .returned (codeV (Im.code 8 i)) ∧ Below w.heap.size w w' := by
  have h0 := hH.pos
  have hcl := fun c hc => Im.code_len n 8 i c (In.dp _ _ _ _ _ h) hw hc
  obtain ⟨a, cap, rfl, rfl, rfl⟩ := h.shape
  obtain ⟨S, hS⟩ : ∃ S : ByteArray, (⟨i.bytes.toArray⟩ : ByteArray) = S := ⟨_, rfl⟩
  have Hin : Hid (In D w n (.bool i.list) (.string ⟨i.bytes.toArray⟩) (.slice a i.kids.length cap) i) := h
  clear h
  rw [hS] at Hin ⊢
  clear hS
  have hsz : ∀ (W : World), Below w.heap.size w W → Calls Tryd.prog 29 #[.agg #[.bool i.list, .string S, .slice a i.kids.length cap], .int .i64 1] W fun e w' => e = .returned (sizeV (Im.code 8 i)) ∧ Below W.heap.size W w' :=
    fun W hW => size_any n D i _ _ _ 1 W (Nat.le_trans hD hW.size) hw (by omega) (by omega) (In.below (hW.mono hD) _ _ _ _ _ Hin.out)
  have hwr : ∀ (c : List UInt8), Im.code 8 i = some c → ∀ (B : Nat) (W : World), IsB B B [] W → B ≤ W.heap.size → w.heap.size ≤ B → Below w.heap.size w W → Calls Tryd.prog 30 #[.pointer (some ⟨B, 0, none⟩), .agg #[.bool i.list, .string S, .slice a i.kids.length cap]] W fun e w' => e = .returned (.tuple #[]) ∧ IsB B B ([] ++ c) w' ∧ Below B W w' :=
    fun c hc B W hI hB hwB hW => write_item n B B D 8 [] c i _ _ _ W hI hB (by omega) (by omega) (hH.below hW h0) hw (by omega) hc (by have := hcl c hc; simp; omega) (In.below (hW.mono hD) _ _ _ _ _ Hin.out)
  generalize Im.code 8 i = R at *
  have Hsz : Hid _ := hsz
  have Hwr : Hid _ := hwr
  have Hcl : Hid _ := hcl
  clear hsz hwr hcl hH
  have hb0 : ∀ o : Obj, Below w.heap.size w (w.alloc o) := fun o => (Below.refl _ w).alloc (Nat.le_refl _) _
  have Hb0 : Hid _ := hb0
  clear hb0
  go_enter Tryd.func17, Tryd.ntmps17
  go_wp2_with fail
  refine (Hsz.out _ (Hb0.out _)).mono ?_
  have hbox0 : (w.alloc (.cells #[.bool i.list, .string S, .slice a i.kids.length cap] 24)).heap[w.heap.size]? = some (.cells #[.bool i.list, .string S, .slice a i.kids.length cap] 24 (0, 0)) := heap_alloc_new _ _
  have hbX := Hb0.out (.cells #[.bool i.list, .string S, .slice a i.kids.length cap] 24)
  have hsX : w.heap.size < (w.alloc (.cells #[.bool i.list, .string S, .slice a i.kids.length cap] 24)).heap.size := by simp
  generalize w.alloc (.cells #[.bool i.list, .string S, .slice a i.kids.length cap] 24) = X at *
  rintro e w1 ⟨rfl, hb1⟩
  have hbw : Below w.heap.size w w1 := hbX.trans (hb1.mono (Nat.le_of_lt hsX))
  have hx1 := (hb1.block w.heap.size hsX).trans hbox0
  have hs1 : w.heap.size < w1.heap.size := Nat.lt_of_lt_of_le hsX hb1.size
  clear hb1 hbX hsX hbox0
  cases R with
  | none =>
    clear hx1
    simp only [sizeV]
    go_wp2_with fail
    go_ret2
    exact ⟨rfl, hbw⟩
  | some c =>
    have hc6 := Hcl.out c rfl
    have Hx1 : Hid _ := hx1
    clear hx1
    simp only [sizeV]
    go_wp2_with fail
    refine (bGrow w1.heap.size w1.heap.size c.length _ (Nat.le_refl _) (heap_alloc_new _ _) (by simp) (by omega)).mono ?_
    rintro e w2 ⟨rfl, hI2, hb2⟩
    have hbw2 : Below w.heap.size w w2 := (hbw.alloc (Nat.le_of_lt hs1) _).trans (hb2.mono (Nat.le_of_lt hs1))
    have hx2 : w2.heap[w.heap.size]? = some (.cells #[.bool i.list, .string S, .slice a i.kids.length cap] 24 (0, 0)) := by
      rw [hb2.block w.heap.size hs1, Below.heap_alloc w1 _ w.heap.size hs1]
      exact Hx1.out
    have hs2 : w1.heap.size ≤ w2.heap.size := by have := hb2.size; simp at this; omega
    have k0 : w2.cell? ⟨w.heap.size, 0, none⟩ = some (.bool i.list) := by rw [Lib.cell_of_heap hx2]; rfl
    have k1 : w2.cell? ⟨w.heap.size, 1, none⟩ = some (.string S) := by rw [Lib.cell_of_heap hx2]; rfl
    have k2 : w2.cell? ⟨w.heap.size, 2, none⟩ = some (.slice a i.kids.length cap) := by rw [Lib.cell_of_heap hx2]; rfl
    clear hx2 hb2
    go_wp2_with fail
    refine (Hwr.out c rfl w1.heap.size w2 hI2 hs2 (Nat.le_of_lt hs1) hbw2).mono ?_
    rintro e w3 ⟨rfl, hI3, hb3⟩
    rw [List.nil_append] at hI3
    go_wp2_with fail
    refine (bString _ _ c _ hI3 (Nat.le_trans hs2 hb3.size)).mono ?_
    rintro e w4 ⟨rfl, _, hb4⟩
    go_wp2
    go_ret2
    exact ⟨rfl, (hbw2.trans (hb3.mono (Nat.le_of_lt hs1))).trans (hb4.mono (Nat.le_of_lt hs1))⟩

/-- a code, or an error, as two results -/
def encV : Option (List UInt8) → Value
  | some c => .tuple #[.string ⟨c.toArray⟩, .int .i64 0]
  | none => .tuple #[.string ⟨#[]⟩, .int .i64 4]

set_option maxRecDepth 100000 in
set_option maxHeartbeats 1000000 in
theorem encode_any (n D : Nat) (i : Im.It) (c0 c1 c2 : Value) (w : World) (hD : D ≤ w.heap.size) (hw : Im.wt n i ≤ 2097152) (hH : Heads w) (h : In D w n c0 c1 c2 i) :
    Calls Tryd.prog 7 #[.agg #[c0, c1, c2]] w fun e w' => e = .returned (encV (Im.code 8 i)) ∧ Below w.heap.size w w' := by
  obtain ⟨a, cap, rfl, rfl, rfl⟩ := h.shape
  have hb0 : ∀ o : Obj, Below w.heap.size w (w.alloc o) := fun o => (Below.refl _ w).alloc (Nat.le_refl _) _
  have h0 := hH.pos
  have hcall := fun o : Obj => code_any n D i _ _ _ (w.alloc o) (by simp; omega) hw (hH.below (hb0 o) h0) (In.below ((hb0 o).mono hD) _ _ _ _ _ h)
  obtain ⟨S, hS⟩ : ∃ S : ByteArray, (⟨i.bytes.toArray⟩ : ByteArray) = S := ⟨_, rfl⟩
  rw [hS] at hcall ⊢
  have Hcall : Hid _ := hcall
  have Hb0 : Hid _ := hb0
  generalize Im.code 8 i = R at *
  clear hb0 hcall h hH hS
  go_enter Tryd.func7, Tryd.ntmps7
  go_wp2_with fail
  refine (Hcall.out _).mono ?_
  rintro e w1 ⟨rfl, hb1⟩
  have hbw := (Hb0.out (.cells #[.bool i.list, .string S, .slice a i.kids.length cap] 24)).trans (hb1.mono (by simp))
  cases R with
  | none =>
    simp only [codeV]
    go_wp2_with fail
    go_ret2
    exact ⟨rfl, hbw⟩
  | some c =>
    simp only [codeV]
    go_wp2_with fail
    go_ret2
    exact ⟨rfl, hbw⟩

set_option maxRecDepth 100000 in
set_option maxHeartbeats 1000000 in
theorem rencode_any (n D : Nat) (i : Im.It) (c0 c1 c2 : Value) (w : World) (hD : D ≤ w.heap.size) (hw : Im.wt n i ≤ 2097152) (h : In D w n c0 c1 c2 i) :
    Calls Tryd.prog 8 #[.agg #[c0, c1, c2]] w fun e w' => e = .returned (encV (Im.code 8 i)) ∧ Below w.heap.size w w' := by
  obtain ⟨a, cap, rfl, rfl, rfl⟩ := h.shape
  have hb0 : ∀ o : Obj, Below w.heap.size w (w.alloc o) := fun o => (Below.refl _ w).alloc (Nat.le_refl _) _
  have hcall : ∀ o : Obj, Calls Tryd.prog 18 #[.agg #[.bool i.list, .string ⟨i.bytes.toArray⟩, .slice a i.kids.length cap], .int .i64 0] (w.alloc o) fun e w' => e = .returned (codeV (Im.code 8 i)) ∧ Below (w.alloc o).heap.size (w.alloc o) w' :=
    fun o : Obj => rcode_any n D i _ _ _ 0 (w.alloc o) (by simp; omega) hw (by omega) (In.below ((hb0 o).mono hD) _ _ _ _ _ h)
  obtain ⟨S, hS⟩ : ∃ S : ByteArray, (⟨i.bytes.toArray⟩ : ByteArray) = S := ⟨_, rfl⟩
  rw [hS] at hcall ⊢
  have Hcall : Hid _ := hcall
  have Hb0 : Hid _ := hb0
  generalize Im.code 8 i = R at *
  clear hb0 hcall h hS
  go_enter Tryd.func8, Tryd.ntmps8
  go_wp2_with fail
  refine (Hcall.out _).mono ?_
  rintro e w1 ⟨rfl, hb1⟩
  have hbw := (Hb0.out (.cells #[.bool i.list, .string S, .slice a i.kids.length cap] 24)).trans (hb1.mono (by simp))
  cases R with
  | none =>
    simp only [codeV]
    go_wp2_with fail
    go_ret2
    exact ⟨rfl, hbw⟩
  | some c =>
    simp only [codeV]
    go_wp2_with fail
    go_ret2
    exact ⟨rfl, hbw⟩
end Go.Proofs.YtpibpdpedjinhaaDoor
