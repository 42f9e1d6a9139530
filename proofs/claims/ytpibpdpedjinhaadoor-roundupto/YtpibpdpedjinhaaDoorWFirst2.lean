/- The walk of item.first: what it finds is Im.read, in memory of its own. -/
import Derived.Test.YtpibpdpedjinhaaDoorWWhole
namespace Go.Proofs.YtpibpdpedjinhaaDoor
open Go.RowKit Go.Joins Go.Shelf
attribute [local go_sem] Oper.semAt_some

theorem body_shape (R : Option (Bool × Nat × Nat)) : ∃ b0 f0 t0 q0, bodyV R = .tuple #[.agg #[.bool b0, .int .i64 f0, .int .i64 t0], .bool q0] := by
  cases R with
  | none => exact ⟨_, _, _, _, rfl⟩
  | some z => exact ⟨_, _, _, _, rfl⟩

set_option maxRecDepth 100000 in
set_option maxHeartbeats 4000000 in
theorem first_any (d : Nat) (hd : d = 0 ∨ ∃ d', d = d' + 1 ∧ FirstSaid d') : FirstSaid d := by
  intro s deep w hs hdd hH
  have h0 := hH.pos
  have hl := Lib.size_eq s
  generalize hC : Im.read Im.body d s.data.toList = C
  have HC : Hid _ := hC
  have Hd : Hid _ := hd
  clear hC hd
  obtain ⟨X, hX⟩ : ∃ X : World, X = w.alloc (.cells #[.bool false, .string ⟨#[]⟩, .slice none 0 0] 24) := ⟨_, rfl⟩
  have hXs : X.heap.size = w.heap.size + 1 := by rw [hX]; simp
  have hXb : Below w.heap.size w X := by rw [hX]; exact (Below.refl _ w).alloc (Nat.le_refl _) _
  have hX0 : X.heap[w.heap.size]? = some (.cells #[.bool false, .string ⟨#[]⟩, .slice none 0 0] 24 (0, 0)) := by rw [hX]; exact heap_alloc_new _ _
  go_enter Tryd.func47, Tryd.ntmps47
  go_wp2_with fail
  rw [← hX]
  refine (firstBody_any s X hs (hH.below hXb h0)).mono ?_
  rintro e w1 ⟨rfl, hb1⟩
  have hs1 := hb1.size
  have hw1 : Below w.heap.size w w1 := hXb.trans (hb1.mono (by omega))
  have hz : w1.heap[w.heap.size]? = some (.cells #[.bool false, .string ⟨#[]⟩, .slice none 0 0] 24 (0, 0)) := (hb1.block _ (by omega)).trans hX0
  have hza : ∀ o : Obj, (w1.alloc o).heap[w.heap.size]? = some (.cells #[.bool false, .string ⟨#[]⟩, .slice none 0 0] 24 (0, 0)) := fun o => (Below.heap_alloc _ _ _ (by omega)).trans hz
  have y0 : ∀ o : Obj, (w1.alloc o).cell? ⟨w.heap.size, 0, none⟩ = some (.bool false) := fun o => by rw [Lib.cell_of_heap (hza o)]; rfl
  have y1 : ∀ o : Obj, (w1.alloc o).cell? ⟨w.heap.size, 1, none⟩ = some (.string ⟨#[]⟩) := fun o => by rw [Lib.cell_of_heap (hza o)]; rfl
  have y2 : ∀ o : Obj, (w1.alloc o).cell? ⟨w.heap.size, 2, none⟩ = some (.slice none 0 0) := fun o => by rw [Lib.cell_of_heap (hza o)]; rfl
  have fy : ∀ (o : Obj) (j : Nat), (w1.alloc o).frozen? ⟨w.heap.size, j, none⟩ = false := fun o j => Lib.frozen_of_heap (hza o) j
  have hne : w.heap.size ≠ w1.heap.size := by omega
  have hH1 := hH.below hw1 h0
  have HX : Hid _ := And.intro hb1 (And.intro hXs (And.intro hXb hX0))
  clear hX hb1 hXs hXb hX0
  cases hR : Im.body s.data.toList with
  | none =>
    obtain rfl : C = none := HC.out.symm.trans (Im.read_none hR)
    simp only [bodyV]
    go_wp2_with fail
    exact bodyPost_ret (v := .tuple #[.agg #[.bool false, .string ⟨#[]⟩, .slice none 0 0], .int .i64 0, .bool false]) (by simp [results, Tryd.results47, go_sem, y0, y1, y2]) rfl ⟨rfl, (((hw1.alloc hw1.size _).setCell (by simp) _).setCell (by simp) _).setCell (by simp) _⟩
  | some R =>
    obtain ⟨l, f, t⟩ := R
    obtain ⟨hft, hts, ht1, hf1⟩ := Im.body_body _ _ _ _ hR
    rw [← hl] at hts
    clear hl
    simp only [bodyV]
    have hft' : (f : Int) ≤ (t : Int) := by omega
    have hts' : (t : Int) ≤ (s.size : Int) := by omega
    cases l with
    | false =>
      obtain rfl := HC.out.symm.trans (Im.read_str hR)
      clear hR
      go_wp2_with fail
      obtain ⟨Y, hY⟩ : ∃ Y : World, Y = w1.alloc (.cells #[.bool false, .int .i64 f, .int .i64 t] 113) := ⟨_, rfl⟩
      rw [← hY]
      have hYs : Y.heap.size = w1.heap.size + 1 := by rw [hY]; simp
      have hYb : Below w.heap.size w Y := by rw [hY]; exact hw1.alloc hw1.size _
      have hYr : Y.heap[w.heap.size]? = some (.cells #[.bool false, .string ⟨#[]⟩, .slice none 0 0] 24 (0, 0)) := by rw [hY]; exact hza _
      have hYf : Y.heap[w1.heap.size]? = some (.cells #[.bool false, .int .i64 f, .int .i64 t] 113 (0, 0)) := by rw [hY]; exact heap_alloc_new _ _
      have hlt : w.heap.size < Y.heap.size := (Array.getElem?_eq_some_iff.1 hYr).1
      have c2 : Y.cell? ⟨w1.heap.size, 2, none⟩ = some (.int .i64 t) := by rw [Lib.cell_of_heap hYf]; rfl
      clear hY
      have HY : Hid _ := And.intro hYr hYf
      have Hz : Hid _ := And.intro y0 (And.intro y1 (And.intro y2 (And.intro fy hza)))
      clear hYr hYf y0 y1 y2 fy hza hz
      have htx : (s.extract f t).size ≤ 16777216 := by simp; omega
      have hbl : (⟨((s.data.toList.take t).drop f).toArray⟩ : ByteArray) = s.extract f t := by
        rw [← ext_list]
      obtain ⟨TX, hTX⟩ : ∃ TX : ByteArray, s.extract f t = TX := ⟨_, rfl⟩
      rw [hTX] at htx hbl
      rw [hTX]
      have hcall : ∀ U : World, Below Y.heap.size Y U → Calls Tryd.prog 54 #[.string TX] U fun e w3 => e = .returned (.string TX) ∧ w3.cell? ⟨w1.heap.size, 2, none⟩ = some (.int .i64 t) ∧ w3.cell? ⟨w.heap.size, 0, none⟩ = some (.bool false) ∧ w3.cell? ⟨w.heap.size, 1, none⟩ = some (.string ⟨#[]⟩) ∧ w3.cell? ⟨w.heap.size, 2, none⟩ = some (.slice none 0 0) ∧ (∀ j, w3.frozen? ⟨w.heap.size, j, none⟩ = false) ∧ Below w.heap.size w w3 := by
        intro U hU
        refine (clone_any TX U htx).mono ?_
        rintro e w3 ⟨rfl, hb3⟩
        have hU3 : Below Y.heap.size Y w3 := hU.trans (hb3.mono hU.size)
        have hy3 := (hU3.block w1.heap.size (by omega)).trans HY.out.2
        have hz3 := (hU3.block w.heap.size hlt).trans HY.out.1
        exact ⟨rfl, by rw [Lib.cell_of_heap hy3]; rfl, by rw [Lib.cell_of_heap hz3]; rfl, by rw [Lib.cell_of_heap hz3]; rfl, by rw [Lib.cell_of_heap hz3]; rfl, Lib.frozen_of_heap hz3, hYb.trans (hU3.mono hYb.size)⟩
      have Hcall : Hid _ := hcall
      clear hcall
      go_region_with (go_at_call 54; refine (Hcall.out _ ?_).mono ?_; (first | exact Below.refl _ _ | exact (Below.refl _ _).drew | exact below_drewN (Below.refl _ _) _); rintro e w3 ⟨rfl, x2, z0, z1, z2, fz, hb4⟩)
      all_goals
        go_wp2_with fail
        refine bodyPost_ret (v := .tuple #[.agg #[.bool false, .string TX, .slice none 0 0], .int .i64 t, .bool true]) (by simp [results, Tryd.results47, go_sem, z0, z1, z2]) rfl ⟨⟨none, 0, by simp only [hbl]; rfl, ?_⟩, ?_⟩
        · exact Tr.of_row (i := ⟨false, (s.data.toList.take t).drop f, []⟩) (Row.none _ _ _ _)
        · first
            | exact ((hb4.setCell (by simp) _).setCell (by simp) _).setCell (by simp) _
            | exact below_drewN (((hb4.setCell (by simp) _).setCell (by simp) _).setCell (by simp) _) _
    | true =>
      have htx : (s.extract f t).size ≤ 16777216 := by simp; omega
      obtain ⟨TX, hTX⟩ : ∃ TX : ByteArray, s.extract f t = TX := ⟨_, rfl⟩
      have hbl : TX.data.toList = (s.data.toList.take t).drop f := by rw [← hTX, ext_list]
      rcases Hd.out with rfl | ⟨d', rfl, hf⟩
      · obtain rfl := HC.out.symm.trans (Im.read_list0 hR)
        have hdp : (8 : Int) < (deep : Int) := by omega
        clear hR hbl
        go_wp2_with fail
        exact bodyPost_ret (v := .tuple #[.agg #[.bool false, .string ⟨#[]⟩, .slice none 0 0], .int .i64 0, .bool false]) (by simp [results, Tryd.results47, go_sem, y0, y1, y2]) rfl ⟨rfl, (((hw1.alloc hw1.size _).setCell (by simp) _).setCell (by simp) _).setCell (by simp) _⟩
      · have hCM : C = _ := HC.out.symm.trans (Im.read_list hR)
        rw [← hbl] at hCM
        have hdp : ¬ (8 : Int) < (deep : Int) := by omega
        have hcall : ∀ U : World, Below w1.heap.size w1 U → Calls Tryd.prog 55 #[.string TX, .int .i64 ((deep : Int) + 1)] U fun e w3 => GotAll (d' + 1) U.heap.size w3 e (Im.many (Im.read Im.body d') s.data.toList.length TX.data.toList) ∧ Below U.heap.size U w3 := by
          intro U hU
          have := whole_any d' hf TX (deep + 1) s.data.toList.length U (by rw [← hTX]; exact htx) (by omega) (by rw [← hTX, ← Lib.size_eq]; simp; omega) (hH1.below hU hH1.pos)
          rw [show ((deep + 1 : Nat) : Int) = (deep : Int) + 1 from by omega] at this
          exact this
        generalize hM : Im.many (Im.read Im.body d') s.data.toList.length TX.data.toList = M at hcall hCM
        have Hcall : Hid _ := hcall
        have HCM : Hid _ := hCM
        clear hcall hR hM HC hCM hbl
        obtain ⟨Y, hY⟩ : ∃ Y : World, Y = w1.alloc (.cells #[.bool true, .int .i64 f, .int .i64 t] 113) := ⟨_, rfl⟩
        have hYs : Y.heap.size = w1.heap.size + 1 := by rw [hY]; simp
        have hY1 : Below w1.heap.size w1 Y := by rw [hY]; exact (Below.refl _ _).alloc (Nat.le_refl _) _
        have hYb : Below w.heap.size w Y := by rw [hY]; exact hw1.alloc hw1.size _
        have hYr : Y.heap[w.heap.size]? = some (.cells #[.bool false, .string ⟨#[]⟩, .slice none 0 0] 24 (0, 0)) := by rw [hY]; exact hza _
        have hYf : Y.heap[w1.heap.size]? = some (.cells #[.bool true, .int .i64 f, .int .i64 t] 113 (0, 0)) := by rw [hY]; exact heap_alloc_new _ _
        have hlt : w.heap.size < Y.heap.size := (Array.getElem?_eq_some_iff.1 hYr).1
        have HY : Hid _ := And.intro hYr hYf
        clear hYr hYf
        go_wp2_with fail
        rw [← hY]
        clear hY
        refine (Hcall.out Y hY1).mono ?_
        rintro e w3 ⟨hg3, hb3⟩
        have s3 := hb3.size
        have hb4 : Below w.heap.size w w3 := hYb.trans (hb3.mono (by omega))
        have hy3 := (hb3.block w1.heap.size (by omega)).trans HY.out.2
        have hz3 := (hb3.block w.heap.size hlt).trans HY.out.1
        have x2 : w3.cell? ⟨w1.heap.size, 2, none⟩ = some (.int .i64 t) := by rw [Lib.cell_of_heap hy3]; rfl
        have z0 : w3.cell? ⟨w.heap.size, 0, none⟩ = some (.bool false) := by rw [Lib.cell_of_heap hz3]; rfl
        have z1 : w3.cell? ⟨w.heap.size, 1, none⟩ = some (.string ⟨#[]⟩) := by rw [Lib.cell_of_heap hz3]; rfl
        have z2 : w3.cell? ⟨w.heap.size, 2, none⟩ = some (.slice none 0 0) := by rw [Lib.cell_of_heap hz3]; rfl
        have fz := Lib.frozen_of_heap hz3
        clear hy3 hz3 y0 y1 y2 fy hza hz
        cases M with
        | none =>
          obtain rfl : C = none := HCM.out
          obtain rfl := hg3
          go_wp2_with fail
          exact bodyPost_ret (v := .tuple #[.agg #[.bool false, .string ⟨#[]⟩, .slice none 0 0], .int .i64 0, .bool false]) (by simp [results, Tryd.results47, go_sem, z0, z1, z2]) rfl ⟨rfl, ((hb4.setCell (by simp) _).setCell (by simp) _).setCell (by simp) _⟩
        | some ks =>
          obtain rfl : C = some (⟨true, [], ks⟩, t) := HCM.out
          obtain ⟨ka, kcap, rfl, hrow⟩ := hg3
          have Hrow : Hid _ := hrow
          clear hrow
          go_wp2_with fail
          go_region
          all_goals
            go_wp2_with fail
            refine bodyPost_ret (v := .tuple #[.agg #[.bool true, .string ⟨#[]⟩, .slice ka ks.length kcap], .int .i64 t, .bool true]) (by simp [results, Tryd.results47, go_sem, z0, z1, z2]) rfl ⟨⟨ka, kcap, rfl, ?_⟩, ?_⟩
            · have r1 := Row.wider (lo' := w.heap.size + 1) Hrow.out (by omega) (Nat.le_refl _)
              have r2 := Row.wider (lo' := w.heap.size) (Row.kept (w' := ((w3.setCell ⟨w.heap.size, 0, none⟩ (.bool true)).setCell ⟨w.heap.size, 1, none⟩ (.string ⟨#[]⟩)).setCell ⟨w.heap.size, 2, none⟩ (.slice ka ks.length kcap)) r1 (fun k k1 _ => by rw [Below.heap_setCell _ _ _ _ (by simp; omega), Below.heap_setCell _ _ _ _ (by simp; omega), Below.heap_setCell _ _ _ _ (by simp; omega)])) (by omega) (Nat.le_refl _)
              exact Tr.of_row (i := ⟨true, [], ks⟩) (Row.wider (Row.kept r2 (fun _ _ _ => rfl)) (Nat.le_refl _) (by simp [World.setCell]))
            · first
                | exact ((hb4.setCell (by simp) _).setCell (by simp) _).setCell (by simp) _
                | exact (((hb4.drew.setCell (by simp) _).setCell (by simp) _).setCell (by simp) _)
                | exact below_drewN (((hb4.setCell (by simp) _).setCell (by simp) _).setCell (by simp) _) _
end Go.Proofs.YtpibpdpedjinhaaDoor
