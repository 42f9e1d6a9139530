/- The walks of tributaryref.First and tributaryref.Decode: what Decode finds is Im.dec, in memory of its own. -/
import Derived.Test.YtpibpdpedjinhaaDoorWRough
import Derived.Test.YtpibpdpedjinhaaDoorWDecode
namespace Go.Proofs.YtpibpdpedjinhaaDoor
open Go.RowKit Go.Joins

theorem code_shape (R : Option (List UInt8)) : ∃ (s : ByteArray) (b : Bool), codeV R = .tuple #[.string s, .bool b] := by
  cases R with
  | none => exact ⟨_, _, rfl⟩
  | some c => exact ⟨_, _, rfl⟩

set_option maxRecDepth 100000 in
set_option maxHeartbeats 4000000 in
theorem rfirst_any (s : ByteArray) (w : World) (hs : s.size ≤ 1048576) :
    Calls Tryd.prog 20 #[.string s] w fun e w' => Got 10 w.heap.size w' e (Im.readDoc s.data.toList) ∧ Below w.heap.size w w' := by
  generalize hC : Im.readDoc s.data.toList = C
  have HC : Hid _ := hC
  clear hC
  obtain ⟨X, hX⟩ : ∃ X : World, X = w.alloc (.cells #[.bool false, .string ⟨#[]⟩, .slice none 0 0] 24) := ⟨_, rfl⟩
  have hXs : X.heap.size = w.heap.size + 1 := by rw [hX]; simp
  have hXb : Below w.heap.size w X := by rw [hX]; exact (Below.refl _ w).alloc (Nat.le_refl _) _
  have hX0 : X.heap[w.heap.size]? = some (.cells #[.bool false, .string ⟨#[]⟩, .slice none 0 0] 24 (0, 0)) := by rw [hX]; exact heap_alloc_new _ _
  go_enter Tryd.func20, Tryd.ntmps20
  go_wp2_with fail
  rw [← hX]
  refine (rough_any 10 s 0 X (by omega) rfl).mono ?_
  rintro e w1 ⟨hg1, hb1⟩
  have s1 := hb1.size
  have hz : w1.heap[w.heap.size]? = some (.cells #[.bool false, .string ⟨#[]⟩, .slice none 0 0] 24 (0, 0)) := (hb1.block _ (by omega)).trans hX0
  have hw1 : Below w.heap.size w w1 := hXb.trans (hb1.mono (by omega))
  have hza : ∀ o : Obj, (w1.alloc o).heap[w.heap.size]? = some (.cells #[.bool false, .string ⟨#[]⟩, .slice none 0 0] 24 (0, 0)) := fun o => (Below.heap_alloc _ _ _ (by omega)).trans hz
  have y0 : ∀ o : Obj, (w1.alloc o).cell? ⟨w.heap.size, 0, none⟩ = some (.bool false) := fun o => by rw [Lib.cell_of_heap (hza o)]; rfl
  have y1 : ∀ o : Obj, (w1.alloc o).cell? ⟨w.heap.size, 1, none⟩ = some (.string ⟨#[]⟩) := fun o => by rw [Lib.cell_of_heap (hza o)]; rfl
  have y2 : ∀ o : Obj, (w1.alloc o).cell? ⟨w.heap.size, 2, none⟩ = some (.slice none 0 0) := fun o => by rw [Lib.cell_of_heap (hza o)]; rfl
  have fy : ∀ (o : Obj) (j : Nat), (w1.alloc o).frozen? ⟨w.heap.size, j, none⟩ = false := fun o j => Lib.frozen_of_heap (hza o) j
  clear hX
  cases hG : Im.read2 Im.rb 10 s.data.toList with
  | none =>
    rw [hG] at hg1
    obtain rfl : C = none := by rw [← HC.out]; unfold Im.readDoc; rw [hG]
    obtain rfl := hg1
    clear hG hz hza
    go_wp2_with fail
    exact bodyPost_ret (v := .tuple #[.agg #[.bool false, .string ⟨#[]⟩, .slice none 0 0], .int .i64 0, .bool false]) (by simp [results, Tryd.results20, go_sem, y0, y1, y2]) rfl ⟨rfl, (((hw1.alloc hw1.size _).setCell (by simp) _).setCell (by simp) _).setCell (by simp) _⟩
  | some x =>
    obtain ⟨i, n⟩ := x
    rw [hG] at hg1
    obtain ⟨a1, cap1, rfl, ht1⟩ := hg1
    simp only at ht1 ⊢
    have hfa := Im.read2_fair Im.rb_body 10 _ _ _ hG
    rw [← Lib.size_eq] at hfa
    have hwt := Im.read2_wt Im.rb_body 10 _ _ _ hG
    obtain ⟨IB, hIB⟩ : ∃ IB : ByteArray, (⟨i.bytes.toArray⟩ : ByteArray) = IB := ⟨_, rfl⟩
    have HIB : Hid _ := hIB
    rw [hIB] at ht1 ⊢
    obtain ⟨Y, hY⟩ : ∃ Y : World, Y = w1.alloc (.cells #[.bool i.list, .string IB, .slice a1 i.kids.length cap1] 24) := ⟨_, rfl⟩
    have hYs : Y.heap.size = w1.heap.size + 1 := by rw [hY]; simp
    have hYb : Below w1.heap.size w1 Y := by rw [hY]; exact (Below.refl _ _).alloc (Nat.le_refl _) _
    have hYr : Y.heap[w.heap.size]? = some (.cells #[.bool false, .string ⟨#[]⟩, .slice none 0 0] 24 (0, 0)) := by rw [hY]; exact hza _
    have hYi : Y.heap[w1.heap.size]? = some (.cells #[.bool i.list, .string IB, .slice a1 i.kids.length cap1] 24 (0, 0)) := by rw [hY]; exact heap_alloc_new _ _
    have hin : In w1.heap.size Y 10 (.bool i.list) (.string IB) (.slice a1 i.kids.length cap1) i := In.below hYb _ _ _ _ _ (Tr.inn 10 _ _ _ _ _ _ (Nat.le_refl _) ht1)
    have hcall := rcode_any 10 w1.heap.size i _ _ _ 0 Y (by omega) (by omega) (by omega) hin
    obtain ⟨CS, cb, hcs⟩ := code_shape (Im.code (8 - 0) i)
    rw [hcs] at hcall
    have Hcall : Hid _ := hcall
    have Hcs : Hid _ := hcs
    have HG : Hid _ := hG
    have HY : Hid (_ ∧ _ ∧ Tr _ _ _ _ _ _ _ _) := And.intro hYr (And.intro hYi ht1)
    clear hcall hcs hG hin hYr hYi ht1 hIB y0 y1 y2 fy hza hz
    go_wp2_with fail
    rw [← hY]
    refine Calls.mono Hcall.out ?_
    rintro e w3 ⟨rfl, hb3⟩
    obtain ⟨hYr, hYi, ht1⟩ := HY.out
    have s3 := hb3.size
    have hr3 := (hb3.block w.heap.size (by omega)).trans hYr
    have hi3 := (hb3.block w1.heap.size (by omega)).trans hYi
    have ht3 : Tr w3 10 X.heap.size w1.heap.size (.bool i.list) (.string IB) (.slice a1 i.kids.length cap1) i := Tr.kept 10 _ _ _ _ _ _ (fun k _ k2 => (hb3.block k (by omega)).trans (hYb.block k k2)) ht1
    have hb4 : Below w.heap.size w w3 := (hw1.trans (hYb.mono (by omega))).trans (hb3.mono (by omega))
    have o0 : w3.cell? ⟨w1.heap.size, 0, none⟩ = some (.bool i.list) := by rw [Lib.cell_of_heap hi3]; rfl
    have o1 : w3.cell? ⟨w1.heap.size, 1, none⟩ = some (.string IB) := by rw [Lib.cell_of_heap hi3]; rfl
    have o2 : w3.cell? ⟨w1.heap.size, 2, none⟩ = some (.slice a1 i.kids.length cap1) := by rw [Lib.cell_of_heap hi3]; rfl
    have z0 : w3.cell? ⟨w.heap.size, 0, none⟩ = some (.bool false) := by rw [Lib.cell_of_heap hr3]; rfl
    have z1 : w3.cell? ⟨w.heap.size, 1, none⟩ = some (.string ⟨#[]⟩) := by rw [Lib.cell_of_heap hr3]; rfl
    have z2 : w3.cell? ⟨w.heap.size, 2, none⟩ = some (.slice none 0 0) := by rw [Lib.cell_of_heap hr3]; rfl
    have fz := Lib.frozen_of_heap hr3
    have H3 : Hid (Tr _ _ _ _ _ _ _ _) := ht3
    have hn' : (n : Int) ≤ (s.size : Int) := by omega
    clear hY hr3 hi3 ht3 hYr hYi ht1 HY
    have hdoc : C = if Im.code 8 i = some (s.data.toList.take n) then some (i, n) else none := by rw [← HC.out]; unfold Im.readDoc; rw [HG.out]
    have Hdoc : Hid _ := hdoc
    clear hdoc
    cases cb with
    | false =>
      obtain rfl : C = none := by
        rw [Hdoc.out, if_neg]
        intro h
        have := Hcs.out
        rw [Nat.sub_zero, h] at this
        simp [codeV] at this
      go_wp2_with fail
      exact bodyPost_ret (v := .tuple #[.agg #[.bool false, .string ⟨#[]⟩, .slice none 0 0], .int .i64 0, .bool false]) (by simp [results, Tryd.results20, go_sem, z0, z1, z2]) rfl ⟨rfl, ((hb4.setCell (by simp) _).setCell (by simp) _).setCell (by simp) _⟩
    | true =>
      have hcc : Im.code 8 i = some CS.data.toList := by
        have := Hcs.out
        rw [Nat.sub_zero] at this
        cases hc : Im.code 8 i with
        | none => rw [hc] at this; simp [codeV] at this
        | some c => rw [hc] at this; simp [codeV] at this; rw [← this]
      by_cases heq : CS = s.extract 0 n
      · obtain rfl : C = some (i, n) := by rw [Hdoc.out, if_pos]; rw [hcc, heq, ext_list]; rfl
        subst heq
        go_wp2_with fail
        refine bodyPost_ret (v := .tuple #[.agg #[.bool i.list, .string IB, .slice a1 i.kids.length cap1], .int .i64 n, .bool true]) (by simp [results, Tryd.results20, go_sem, z0, z1, z2]) rfl ⟨⟨a1, cap1, by simp only [HIB.out], ?_⟩, ((hb4.setCell (by simp) _).setCell (by simp) _).setCell (by simp) _⟩
        simp only [HIB.out]
        refine Tr.wider (Tr.kept 10 _ _ _ _ _ _ (fun k k1 _ => ?_) H3.out) (by omega) (by simp [World.setCell]; omega)
        rw [Below.heap_setCell _ _ _ _ (by simp; omega), Below.heap_setCell _ _ _ _ (by simp; omega), Below.heap_setCell _ _ _ _ (by simp; omega)]
      · obtain rfl : C = none := by
          rw [Hdoc.out, if_neg]
          intro h
          rw [hcc] at h
          apply heq
          apply ByteArray.ext
          apply Array.toList_inj.1
          rw [ext_list]
          simpa using h
        have heq2 : (CS.toList == (s.extract 0 n).toList) = false := by
          rw [ByteArray.toList_eq, ByteArray.toList_eq, beq_eq_false_iff_ne]
          exact fun h => heq (ByteArray.ext (Array.toList_inj.1 h))
        go_wp2_with fail
        exact bodyPost_ret (v := .tuple #[.agg #[.bool false, .string ⟨#[]⟩, .slice none 0 0], .int .i64 0, .bool false]) (by simp [results, Tryd.results20, go_sem, z0, z1, z2]) rfl ⟨rfl, ((hb4.setCell (by simp) _).setCell (by simp) _).setCell (by simp) _⟩

theorem dec_doc (s : List UInt8) (hs : s.length < 4294967296) : Im.dec s = match Im.readDoc s with
    | some (i, n) => if n = s.length then some i else none
    | none => none := by
  rw [Im.readDoc_eq s hs]
  rfl

set_option maxRecDepth 100000 in
set_option maxHeartbeats 4000000 in
theorem rdecode_any (s : ByteArray) (w : World) (hs : s.size ≤ 1048576) :
    Calls Tryd.prog 12 #[.string s] w fun e w' => Decoded 10 w.heap.size w' e (Im.dec s.data.toList) ∧ Below w.heap.size w w' := by
  have hdd := dec_doc s.data.toList (by rw [← Lib.size_eq]; omega)
  rw [← Lib.size_eq] at hdd
  generalize Im.dec s.data.toList = C at hdd ⊢
  have hcall := fun W => rfirst_any s W hs
  generalize Im.readDoc s.data.toList = R at hdd hcall
  have Hdd : Hid _ := hdd
  have Hcall : Hid _ := hcall
  clear hdd hcall
  obtain ⟨X, hX⟩ : ∃ X : World, X = w.alloc (.cells #[.bool false, .string ⟨#[]⟩, .slice none 0 0] 24) := ⟨_, rfl⟩
  have hXs : X.heap.size = w.heap.size + 1 := by rw [hX]; simp
  have hXb : Below w.heap.size w X := by rw [hX]; exact (Below.refl _ w).alloc (Nat.le_refl _) _
  have hX0 : X.heap[w.heap.size]? = some (.cells #[.bool false, .string ⟨#[]⟩, .slice none 0 0] 24 (0, 0)) := by rw [hX]; exact heap_alloc_new _ _
  go_enter Tryd.func12, Tryd.ntmps12
  go_wp2_with fail
  rw [← hX]
  refine (Hcall.out X).mono ?_
  rintro e w1 ⟨hg1, hb1⟩
  have s1 := hb1.size
  have hz : w1.heap[w.heap.size]? = some (.cells #[.bool false, .string ⟨#[]⟩, .slice none 0 0] 24 (0, 0)) := (hb1.block _ (by omega)).trans hX0
  have hw1 : Below w.heap.size w w1 := hXb.trans (hb1.mono (by omega))
  have hza : ∀ o : Obj, (w1.alloc o).heap[w.heap.size]? = some (.cells #[.bool false, .string ⟨#[]⟩, .slice none 0 0] 24 (0, 0)) := fun o => (Below.heap_alloc _ _ _ (by omega)).trans hz
  have y0 : ∀ o : Obj, (w1.alloc o).cell? ⟨w.heap.size, 0, none⟩ = some (.bool false) := fun o => by rw [Lib.cell_of_heap (hza o)]; rfl
  have y1 : ∀ o : Obj, (w1.alloc o).cell? ⟨w.heap.size, 1, none⟩ = some (.string ⟨#[]⟩) := fun o => by rw [Lib.cell_of_heap (hza o)]; rfl
  have y2 : ∀ o : Obj, (w1.alloc o).cell? ⟨w.heap.size, 2, none⟩ = some (.slice none 0 0) := fun o => by rw [Lib.cell_of_heap (hza o)]; rfl
  have fy : ∀ (o : Obj) (j : Nat), (w1.alloc o).frozen? ⟨w.heap.size, j, none⟩ = false := fun o j => Lib.frozen_of_heap (hza o) j
  clear hX hz hza
  cases R with
  | none =>
    obtain rfl : C = none := Hdd.out
    obtain rfl := hg1
    go_wp2_with fail
    exact bodyPost_ret (v := .tuple #[.agg #[.bool false, .string ⟨#[]⟩, .slice none 0 0], .int .i64 4]) (by simp [results, Tryd.results12, go_sem, y0, y1, y2]) rfl ⟨rfl, (((hw1.alloc hw1.size _).setCell (by simp) _).setCell (by simp) _).setCell (by simp) _⟩
  | some x =>
    obtain ⟨i, n⟩ := x
    obtain ⟨a1, cap1, rfl, ht1⟩ := hg1
    simp only at ht1 ⊢
    obtain ⟨IB, hIB⟩ : ∃ IB : ByteArray, (⟨i.bytes.toArray⟩ : ByteArray) = IB := ⟨_, rfl⟩
    have HIB : Hid _ := hIB
    rw [hIB] at ht1 ⊢
    have Ht1 : Hid (Tr _ _ _ _ _ _ _ _) := ht1
    clear ht1 hIB
    have hdd2 : C = if n = s.size then some i else none := Hdd.out
    by_cases hn : n = s.size
    · have hn2 : ((n : Int) == (s.size : Int)) = true := by simp [hn]
      obtain rfl : C = some i := by rw [hdd2, if_pos hn]
      clear hdd2
      go_wp2_with fail
      refine bodyPost_ret (v := .tuple #[.agg #[.bool i.list, .string IB, .slice a1 i.kids.length cap1], .int .i64 0]) (by simp [results, Tryd.results12, go_sem, y0, y1, y2]) rfl ⟨⟨a1, cap1, by simp only [HIB.out], ?_⟩, (((hw1.alloc hw1.size _).setCell (by simp) _).setCell (by simp) _).setCell (by simp) _⟩
      simp only [HIB.out]
      refine Tr.wider (Tr.kept 10 _ _ _ _ _ _ (fun k k1 k2 => ?_) Ht1.out) (by omega) (by simp [World.setCell])
      rw [Below.heap_setCell _ _ _ _ (by simp; omega), Below.heap_setCell _ _ _ _ (by simp; omega), Below.heap_setCell _ _ _ _ (by simp; omega), Below.heap_alloc _ _ _ k2]
    · have hn2 : ((n : Int) == (s.size : Int)) = false := by simp; omega
      obtain rfl : C = none := by rw [hdd2, if_neg hn]
      clear hdd2
      go_wp2_with fail
      exact bodyPost_ret (v := .tuple #[.agg #[.bool false, .string ⟨#[]⟩, .slice none 0 0], .int .i64 4]) (by simp [results, Tryd.results12, go_sem, y0, y1, y2]) rfl ⟨rfl, (((hw1.alloc hw1.size _).setCell (by simp) _).setCell (by simp) _).setCell (by simp) _⟩
end Go.Proofs.YtpibpdpedjinhaaDoor
