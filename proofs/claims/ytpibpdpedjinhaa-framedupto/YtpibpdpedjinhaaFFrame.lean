/- The walk of the verifier's book.frame: a list of frames that came out is full of its mark, and so are the longer ones that are laid behind it. -/
import Derived.Test.YtpibpdpedjinhaaFBook
import Derived.Test.YtpibpdpedjinhaaFRef2
import Derived.Deep.RegionLaw
namespace Go.Proofs.Ytpibpdpedjinhaa.Fr
open Go.RowKit Go.Joins

theorem info_frames : (Try.prog.info? 36).map (fun i => (i.zero, i.size, i.bytes)) = some (some (.slice none 0 0), 1, 24) := by kernel_rfl
theorem info_intB : (Try.prog.info? 3).map (fun i => (i.zero, i.size, i.bytes)) = some (some (.int .i64 0), 1, 8) := by kernel_rfl

set_option maxRecDepth 100000 in
set_option maxHeartbeats 4000000 in
theorem bframe_any (la : Option Addr) (len lcap lo : Nat) (xs : List Value) (W : World) (kb B0 N : Nat) (es : List E) (hown : W.ownsRow lo 42 4 (.slice la len lcap) len xs) (hB0 : B0 ≤ lo) (hloW : lo ≤ W.heap.size) (hlo2 : B0 ≤ W.heap.size) (hlen : len ≤ 2097152) (hN : N ≤ 16777216) (hes : es.length ≤ 16777216)
    (hbook : Book W kb B0 N es) (hoff : ∀ e, e ∈ es → e.At (fun g => Value.ownBlock (.slice la len lcap) ≠ some g)) :
    Calls Try.prog 11 #[.pointer (some ⟨kb, 0, none⟩), .slice la len lcap] W fun e W' => e = .returned (.tuple #[]) ∧ ∃ es', es'.length = 4 ∧ Book W' kb B0 (N + 1) (es ++ es') ∧ Below B0 W W' := by
  obtain ⟨vi, vm, hr2, hrd⟩ := hbook
  have hbk := hr2.1
  have kb0 : W.cell? ⟨kb, 0, none⟩ = some (.int .i64 N) := by rw [Lib.cell_of_heap hbk]; rfl
  have H3 : Hid _ := And.intro hr2 hrd
  have H4 : Hid _ := And.intro hown hoff
  clear hr2 hrd hbk hown hoff
  go_enter Try.func11, Try.ntmps11
  go_wp2_with fail
  refine (word_any N W).mono ?_
  rintro e w2 ⟨rfl, hb2⟩
  have s2 := hb2.size
  obtain ⟨Z, hZ⟩ : ∃ Z : World, Z = w2.alloc (.cells #[.int .u32 0, .int .u16 0, .string (markB N), .bool false] 42) := ⟨_, rfl⟩
  have hZs : Z.heap.size = w2.heap.size + 1 := by rw [hZ]; simp
  have hZb : Below W.heap.size W Z := by rw [hZ]; exact hb2.alloc s2 _
  have hZm : Z.heap[w2.heap.size]? = some (.cells #[.int .u32 0, .int .u16 0, .string (markB N), .bool false] 42 (0, 0)) := by rw [hZ]; exact heap_alloc_new _ _
  have hown0 : Z.ownsRow lo 42 4 (.slice la len lcap) len xs := own_below H4.out.1 hZb
  have hgl : ∀ g, Value.ownBlock (.slice la len lcap) = some g → lo ≤ g ∧ g < W.heap.size := fun g hg => own_lt H4.out.1 hg
  have HZ : Hid _ := And.intro hZb (And.intro hZm (And.intro hown0 hgl))
  obtain ⟨MB, hMB⟩ : ∃ MB : ByteArray, markB N = MB := ⟨_, rfl⟩
  rw [hMB]
  rw [hMB] at hZ hZm
  have HMB : Hid _ := hMB
  clear hZb hown0 hgl kb0
  go_wp2_with fail
  rw [← hZ]
  clear hZ hMB
  go_loopg [5] len (fun g v wx => ∃ j : Nat, j ≤ len ∧ v = .int .i64 j ∧ g = len - j ∧ Hid (∃ ys, wx.ownsRow lo 42 4 (.slice la len lcap) len ys ∧ (∀ q, q < j → M4 N ys q) ∧ Z.grownBy wx (Value.ownBlock (.slice la len lcap))))
  case atStart => exact ⟨0, Nat.zero_le _, rfl, rfl, xs, HZ.out.2.2.1, fun q hq => by omega, World.grownBy.refl _ _⟩
  case round =>
    obtain ⟨j, hj, rfl, rfl, HJ⟩ := hrel
    obtain ⟨ys, y1, y2, y3⟩ := HJ.out
    have sx := y3.size
    have hgl := HZ.out.2.2.2
    have hm1 := (y3.block w2.heap.size (by omega) (fun e => by have := (hgl _ e.symm).2; omega)).trans hZm
    have m0 : wr.cell? ⟨w2.heap.size, 0, none⟩ = some (.int .u32 0) := by rw [Lib.cell_of_heap hm1]; rfl
    have m1 : wr.cell? ⟨w2.heap.size, 1, none⟩ = some (.int .u16 0) := by rw [Lib.cell_of_heap hm1]; rfl
    have m2 : wr.cell? ⟨w2.heap.size, 2, none⟩ = some (.string MB) := by rw [Lib.cell_of_heap hm1]; rfl
    have m3 : wr.cell? ⟨w2.heap.size, 3, none⟩ = some (.bool false) := by rw [Lib.cell_of_heap hm1]; rfl
    by_cases hlt : j < len
    · have hlt' : (j : Int) < (len : Int) := by omega
      obtain ⟨g0, cap0, hsh⟩ := owns_shape y1 (by omega)
      simp only [Value.slice.injEq, true_and] at hsh
      obtain ⟨rfl, rfl⟩ := hsh
      have hxl := y1.1
      have hcl := y1.cells (g := g0) rfl
      have hg0 : g0 ≠ w2.heap.size := by have := (hgl g0 rfl).2; omega
      obtain ⟨x0, hx0⟩ : ∃ x0, ys[j * 4]? = some x0 := ⟨_, List.getElem?_eq_getElem (by omega)⟩
      obtain ⟨x1, hx1⟩ : ∃ x1, ys[j * 4 + 1]? = some x1 := ⟨_, List.getElem?_eq_getElem (by omega)⟩
      obtain ⟨x2, hx2⟩ : ∃ x2, ys[j * 4 + 2]? = some x2 := ⟨_, List.getElem?_eq_getElem (by omega)⟩
      obtain ⟨x3, hx3⟩ : ∃ x3, ys[j * 4 + 3]? = some x3 := ⟨_, List.getElem?_eq_getElem (by omega)⟩
      have r0 : wr.cell? ⟨g0, j * 4, none⟩ = some x0 := by have := hcl _ _ hx0; simpa [addr_add'] using this
      have r1 : wr.cell? ⟨g0, j * 4 + 1, none⟩ = some x1 := by have := hcl _ _ hx1; simpa [addr_add'] using this
      have r2 : wr.cell? ⟨g0, j * 4 + 2, none⟩ = some x2 := by have := hcl _ _ hx2; simpa [addr_add'] using this
      have r3 : wr.cell? ⟨g0, j * 4 + 3, none⟩ = some x3 := by have := hcl _ _ hx3; simpa [addr_add'] using this
      have fz0 : wr.frozen? ⟨g0, j * 4, none⟩ = false := own_frozen y1
      have fz1 : wr.frozen? ⟨g0, j * 4 + 1, none⟩ = false := own_frozen y1
      have fz2 : wr.frozen? ⟨g0, j * 4 + 2, none⟩ = false := own_frozen y1
      have fz3 : wr.frozen? ⟨g0, j * 4 + 3, none⟩ = false := own_frozen y1
      have hnew : Hid (∃ ys', ((((wr.setCell ⟨g0, j * 4, none⟩ (.int .u32 0)).setCell ⟨g0, j * 4 + 1, none⟩ (.int .u16 0)).setCell ⟨g0, j * 4 + 2, none⟩ (.string MB)).setCell ⟨g0, j * 4 + 3, none⟩ (.bool false)).ownsRow lo 42 4 (.slice (some ⟨g0, 0, none⟩) len lcap) len ys' ∧ (∀ q, q < j + 1 → M4 N ys' q) ∧ Z.grownBy ((((wr.setCell ⟨g0, j * 4, none⟩ (.int .u32 0)).setCell ⟨g0, j * 4 + 1, none⟩ (.int .u16 0)).setCell ⟨g0, j * 4 + 2, none⟩ (.string MB)).setCell ⟨g0, j * 4 + 3, none⟩ (.bool false)) (Value.ownBlock (.slice (some ⟨g0, 0, none⟩) len lcap))) := by
        refine ⟨_, own_put4 y1 j _ _ _ _, by rw [← HMB.out]; exact Full.put hxl hlt y2, ?_⟩
        refine ⟨y3.os, y3.tape, y3.output, by simp [World.setCell]; exact sx, fun k hk hne => ?_⟩
        have hkg : k ≠ g0 := fun e => hne (by rw [e]; rfl)
        rw [Below.heap_setCell _ _ _ _ hkg, Below.heap_setCell _ _ _ _ hkg, Below.heap_setCell _ _ _ _ hkg, Below.heap_setCell _ _ _ _ hkg]
        exact y3.block k hk hne
      clear y1 y2 y3 hcl hx0 hx1 hx2 hx3 hgl hm1
      go_wp2_with fail
      go_roundg (len - (j + 1))
      case measure => omega
      case rel => exact ⟨j + 1, by omega, by go_num, rfl, hnew.out⟩
    · obtain rfl : j = len := by omega
      have hlt' : ¬ (j : Int) < (j : Int) := by omega
      have hst : Hid (Four W wr lo W.heap.size kb B0 N j w2.heap.size es [] (.slice la j lcap) 0) := by
        exact Four.start (lv := .slice la j lcap) hB0 hlo2 (Nat.le_refl _) H3.out.1 H3.out.2 H4.out.2 HZ.out.1 y1 y2 y3 HZ.out.2.2.1 (fun g hg => (hgl g hg).2) (Kp.refl _ _ _) (Below.refl _ _) s2 (by omega) (by rw [HMB.out]; exact hm1)
      clear y1 y2 y3 hgl hm1 m0 m1 m2 m3
      obtain ⟨iI, hiI, hiI0, hiI1, hiI2⟩ := info_parts info_frames
      have HiI : Hid _ := And.intro hiI (And.intro hiI0 (And.intro hiI1 hiI2))
      obtain ⟨iN, hiN, hiN0, hiN1, hiN2⟩ := info_parts info_intB
      have HiN : Hid _ := And.intro hiN (And.intro hiN0 (And.intro hiN1 hiN2))
      obtain ⟨iT, hiT, hiT0, hiT1, hiT2⟩ := info_parts info_frame
      have HiT : Hid _ := And.intro hiT (And.intro hiT0 (And.intro hiT1 hiT2))
      clear hiI hiI0 hiI1 hiI2 hiN hiN0 hiN1 hiN2 hiT hiT0 hiT1 hiT2
      go_wp2_with fail
      go_loopg [1, 6] 4 (fun g v5 v8 wx => ∃ (r : Nat) (es2 : List E) (a5 : Option Addr) (cap5 : Nat), r ≤ 4 ∧ v8 = .int .i64 r ∧ v5 = .slice a5 (j + r) cap5 ∧ g = 4 - r ∧ Hid (Four W wx lo W.heap.size kb B0 N j w2.heap.size es es2 (.slice a5 (j + r) cap5) r))
      case atStart => exact ⟨0, [], la, lcap, Nat.zero_le _, rfl, rfl, rfl, hst.out⟩
      case round =>
        obtain ⟨r, es2, a5, cap5, hr4, rfl, rfl, rfl, HF⟩ := hrel
        obtain ⟨vi1, vm1, ys5, f1, f2, f3, f4, f5, f6, f7, f8, f9, f10, f11, f12, f13⟩ := HF.out
        obtain ⟨ai, ci, hvi⟩ := owns_slice f2.2.2.1
        obtain ⟨am, cm, hvm⟩ := owns_slice f2.2.2.2
        subst hvi hvm
        have hL : (es ++ es2).length = es.length + r := by simp [f1]
        obtain ⟨Ln, hLn⟩ : ∃ Ln, (es ++ es2).length = Ln := ⟨_, rfl⟩
        have hG := RowsG.of2 f2
        rw [hLn] at f2 hG hL
        have hLb : Ln ≤ 134217728 := by omega
        clear hL
        obtain ⟨hbk, hkb, hvi, hvm⟩ := f2
        rw [hLn] at hvi hvm
        have hBwr : B0 ≤ wr.heap.size := by have := f10.size; omega
        obtain ⟨VS, hVS⟩ : ∃ VS, (es ++ es2).map E.v = VS := ⟨_, rfl⟩
        obtain ⟨MS, hMS⟩ : ∃ MS, (es ++ es2).map (fun e => Value.int .i64 e.mark) = MS := ⟨_, rfl⟩
        have hVl : VS.length = Ln := by rw [← hVS, List.length_map, hLn]
        have hMl : MS.length = Ln := by rw [← hMS, List.length_map, hLn]
        rw [hVS] at hvi hG
        rw [hMS] at hvm hG
        have HVM : Hid _ := And.intro hVS (And.intro hMS (And.intro hVl hMl))
        clear hVS hMS hVl hMl
        have kb0 : wr.cell? ⟨kb, 0, none⟩ = some (.int .i64 N) := by rw [Lib.cell_of_heap hbk]; rfl
        have kb1 : wr.cell? ⟨kb, 3, none⟩ = some (.slice ai Ln ci) := by rw [Lib.cell_of_heap hbk]; rfl
        have hvi3 := fun o : Obj => hvi.alloc o
        have HG : Hid _ := And.intro hG (And.intro hbk (And.intro hvi hvm))
        have HFF : Hid _ := And.intro f3 (And.intro f4 (And.intro f5 (And.intro f6 (And.intro f7 (And.intro f8 (And.intro f9 (And.intro f10 f13)))))))
        have Hvi3 : Hid _ := hvi3
        clear hG hbk hvi hvm f3 f4 f5 f6 f7 f8 f9 f10 f13 hvi3 HF
        by_cases hlt2 : r < 4
        · have hlt2' : (r : Int) < 4 := by omega
          go_wp2_with (at_builtin; refine wpList_append_mine3 _ rfl (.tmp 31) (.tmp 33) 30 rfl B0 36 iI _ 1 24 Try.underlying30 HiI.out.1 HiI.out.2.1 HiI.out.2.2.1 HiI.out.2.2.2 rfl (by decide) _ Ln _ rfl (Hvi3.out _) ⟨wr.heap.size, 0, none⟩ 1 1 [.slice a5 (j + r) cap5] rfl (by decide) rfl ?c1 ?c2 ?c3 ?c4 ?c5 ?_)
          case c1 =>
            intro j u hj
            match j, hj with
            | 0, hj => simp at hj; subst hj; simp [Addr.add]
          case c2 =>
            intro u hu
            simp at hu
            subst hu
            rfl
          case c3 => unfold maxLen; omega
          case c4 => omega
          case c5 => simp; omega
          · intro vi2 w3 hown3 hgr3 hat3
            obtain ⟨hG, hbk, hvi, hvm⟩ := HG.out
            obtain ⟨k1, k2, k3⟩ := hG.item ((Below.refl _ wr).alloc (Nat.le_refl _) _) hBwr (by rw [HVM.out.2.2.1]; exact hown3) hgr3
            have b3 : BookAt w3 kb N (.slice ai Ln ci) (.slice am Ln cm) := (hgr3.block kb (by have := (Array.getElem?_eq_some_iff.1 hbk).1; simp; omega) (fun e => kb_apart hbk hvi (by simp) e.symm)).trans ((Below.heap_alloc _ _ _ (Array.getElem?_eq_some_iff.1 hbk).1).trans hbk)
            obtain ⟨g3, cap3, rfl⟩ := owns_shape hown3 (by omega)
            have m1 : w3.cell? ⟨kb, 3, none⟩ = some (.slice ai Ln ci) := by rw [Lib.cell_of_heap b3]; rfl
            have fm := Lib.frozen_of_heap b3
            have HK : Hid _ := And.intro k1 (And.intro k2 k3)
            clear hown3 hgr3 hat3 hG hbk hvi hvm k1 k2 k3 kb0 kb1 b3
            go_upto_region 9 with fail
            obtain ⟨Y1, hY1⟩ : ∃ Y1 : World, Y1 = w3.setCell ⟨kb, 3, none⟩ (.slice (some ⟨g3, 0, none⟩) (Ln + 1) cap3) := ⟨_, rfl⟩
            rw [← hY1] at HK ⊢
            clear hY1 m1 fm
            obtain ⟨k1, k2, k3⟩ := HK.out
            obtain ⟨b1, _, j1, j2⟩ := k1
            rw [HVM.out.2.2.2] at j2
            have sY := k3.size
            have hkl2 : kb < Y1.heap.size := (Array.getElem?_eq_some_iff.1 b1).1
            have n0 : Y1.cell? ⟨kb, 0, none⟩ = some (.int .i64 N) := by rw [Lib.cell_of_heap b1]; rfl
            have n5 : Y1.cell? ⟨kb, 7, none⟩ = some (.slice am Ln cm) := by rw [Lib.cell_of_heap b1]; rfl
            have hown4 : ∀ o : Obj, (Y1.drew.alloc o).ownsRow B0 3 1 (.slice am Ln cm) Ln MS := fun o => own_below j2 (((Below.refl _ Y1).drew).alloc (Nat.le_refl _) o)
            have Hown4 : Hid _ := hown4
            have hkeep : ∀ (o : Obj) (w4 : World), (Y1.drew.alloc o).grownBy w4 (Value.ownBlock (.slice am Ln cm)) → BookAt w4 kb N (.slice (some ⟨g3, 0, none⟩) (Ln + 1) cap3) (.slice am Ln cm) := fun o w4 hg4 => (hg4.block kb (by simp; omega) (fun e => kb_apart b1 j2 (by simp) e.symm)).trans ((Below.heap_alloc _ _ _ hkl2).trans b1)
            have hkeep2 : ∀ (o : Obj) (w4 : World), (Y1.drew.alloc o).grownBy w4 (Value.ownBlock (.slice am Ln cm)) → w4.cell? ⟨kb, 7, none⟩ = some (.slice am Ln cm) := fun o w4 hg4 => by rw [Lib.cell_of_heap (hkeep o w4 hg4)]; rfl
            have n5a : ∀ o : Obj, (Y1.drew.alloc o).cell? ⟨kb, 7, none⟩ = some (.slice am Ln cm) := fun o => hkeep2 o _ (World.grownBy.refl _ _)
            have hfz : ∀ (o : Obj) (w4 : World), (Y1.drew.alloc o).grownBy w4 (Value.ownBlock (.slice am Ln cm)) → w4.frozen? ⟨kb, 7, none⟩ = false := fun o w4 hg4 => Lib.frozen_of_heap (hkeep o w4 hg4) 7
            have Hkeep2 : Hid _ := hkeep2
            have Hfz : Hid _ := hfz
            clear hkeep hkeep2 hfz
            clear k2 k3 b1 j1 j2 hown4
            go_region_law ((refine step_append_lies _ (by rfl) (.tmp 42) (.tmp 47) 32 (by rfl) B0 3 iN _ 1 8 Try.underlying32 HiN.out.1 HiN.out.2.1 HiN.out.2.2.1 HiN.out.2.2.2 (by rfl) (by decide) _ Ln MS (by rfl) (Hown4.out _) ⟨Y1.heap.size, 0, none⟩ 1 1 [.int .i64 N] (by rfl) (by rfl) (by intro j u hj; match j, hj with | 0, hj => (simp at hj; subst hj; simp [Addr.add])) (by intro u hu; simp at hu; subst hu; rfl) (by decide) (by unfold maxLen; omega) (by omega) (by simp; omega) (Y1.heap.size + 1) (by simp) ?_; intro g4 cap4 w4 hown5 hgr5 hat5 hlt5; have fz5 := Hfz.out _ _ hgr5; have n56 := Hkeep2.out _ _ hgr5))
            all_goals
              obtain ⟨hG1, hK1, hBl1⟩ := HK.out
              obtain ⟨k4, k5, k6⟩ := RowsG.mark hG1 (((Below.refl _ Y1).drew).alloc (Nat.le_refl _) _) (by omega) (by rw [HVM.out.2.2.2]; exact hown5) hgr5
              obtain ⟨Y2, hY2⟩ : ∃ Y2 : World, Y2 = w4.setCell ⟨kb, 7, none⟩ (.slice (some ⟨g4, 0, none⟩) (Ln + 1) cap4) := ⟨_, rfl⟩
              rw [← hY2] at k4 k5 k6 ⊢
              obtain ⟨f3, f4, f5, f6, f7, f8, f9, f10, f13⟩ := HFF.out
              have hK2 : Kp 0 0 wr Y2 := hK1.then0 k5
              have hB2 : Below B0 wr Y2 := hBl1.trans k6
              have s6 := k6.size
              have hm2 := hK2 _ _ f13 (.inr (Nat.zero_le _)) (NB.item _ _)
              rw [HMB.out] at hm2
              have m0 : Y2.cell? ⟨w2.heap.size, 0, none⟩ = some (.int .u32 0) := by rw [Lib.cell_of_heap hm2]; rfl
              have m1 : Y2.cell? ⟨w2.heap.size, 1, none⟩ = some (.int .u16 0) := by rw [Lib.cell_of_heap hm2]; rfl
              have m2 : Y2.cell? ⟨w2.heap.size, 2, none⟩ = some (.string MB) := by rw [Lib.cell_of_heap hm2]; rfl
              have m3 : Y2.cell? ⟨w2.heap.size, 3, none⟩ = some (.bool false) := by rw [Lib.cell_of_heap hm2]; rfl
              have hown6 : ∀ o : Obj, (Y2.alloc o).ownsRow lo 42 4 (.slice a5 (j + r) cap5) (j + r) ys5 := fun o => (own_keptT0 f4 (fun g cs hc => hK2 g _ hc (.inr (Nat.zero_le _)) (NB.item _ _))).alloc o
              have Hown6 : Hid _ := hown6
              have HK2 : Hid _ := And.intro k4 (And.intro hK2 hB2)
              have hloY : lo ≤ Y2.heap.size := by have := f10.size; have := hB2.size; omega
              clear hY2 hG1 hK1 hBl1 k4 k5 k6 f3 f4 f5 f6 f7 f8 f9 f10 f13 hown6 hm2 hown5 hgr5 hat5 hlt5 fz5 n56 n0 n5 n5a hK2 hB2
              go_wp2_with (at_builtin; refine wpList_append_mine3 _ rfl (.tmp 52) (.tmp 54) 36 rfl lo 42 iT _ 4 32 Try.underlying36 HiT.out.1 HiT.out.2.1 HiT.out.2.2.1 HiT.out.2.2.2 rfl (by decide) _ (j + r) ys5 rfl (Hown6.out _) ⟨Y2.heap.size, 0, none⟩ 1 1 [.int .u32 0, .int .u16 0, .string MB, .bool false] rfl (by decide) rfl ?c1 ?c2 ?c3 ?c4 ?c5 ?_)
              case c1 =>
                intro j u hj
                match j, hj with
                | 0, hj => simp at hj; subst hj; simp [Addr.add]
                | 1, hj => simp at hj; subst hj; simp [Addr.add]
                | 2, hj => simp at hj; subst hj; simp [Addr.add]
                | 3, hj => simp at hj; subst hj; simp [Addr.add]
              case c2 =>
                intro u hu
                simp at hu
                rcases hu with rfl | rfl | rfl | rfl <;> rfl
              case c3 => unfold maxLen; omega
              case c4 => omega
              case c5 => simp; omega
              · intro lv2 z hown7 hgr7 hat7
                obtain ⟨f3, f4, f5, f6, f7, f8, f9, f10, f13⟩ := HFF.out
                obtain ⟨k4, k5, k6⟩ := HK2.out
                obtain ⟨e0, hfour⟩ := Four.round hB0 hlo2 (by omega) f1 f3 f4 f5 f6 f7 f8 f9 f10 f11 f12 f13 (by rw [HVM.out.1, HVM.out.2.1]; exact k4) k5 k6 ((Below.refl _ Y2).alloc (Nat.le_refl _) _) (by rw [HMB.out]; exact hown7) hgr7 (by simpa only [World.size_alloc] using hat7)
                obtain ⟨g7, cap7, rfl⟩ := owns_shape hown7 (by omega)
                have HFour : Hid _ := hfour
                clear hown7 hgr7 hat7 hfour f3 f4 f5 f6 f7 f8 f9 f10 f13 k4 k5 k6 m0 m1 m2 m3
                go_wp2_with fail
                go_roundg (4 - (r + 1))
                case measure => omega
                case rel => exact ⟨r + 1, es2 ++ [e0], some ⟨g7, 0, none⟩, cap7, by omega, by go_num, by rw [← Nat.add_assoc], rfl, HFour.out⟩
        · obtain rfl : r = 4 := by omega
          have hlt2' : ¬ ((4 : Nat) : Int) < 4 := by omega
          obtain ⟨hG, hbk, hvi, hvm⟩ := HG.out
          obtain ⟨f3, f4, f5, f6, f7, f8, f9, f10, f13⟩ := HFF.out
          have fzk := Lib.frozen_of_heap hbk
          have hfin : Hid (∃ es', es'.length = 4 ∧ Book (wr.setCell ⟨kb, 0, none⟩ (.int .i64 ((N + 1 : Nat) : Int))) kb B0 (N + 1) (es ++ es') ∧ Below B0 W (wr.setCell ⟨kb, 0, none⟩ (.int .i64 ((N + 1 : Nat) : Int)))) := by
            refine ⟨es2, f1, ⟨_, _, ⟨hbk.set0 (N + 1), hkb, ?_, ?_⟩, ?_⟩, f10.setCell hkb _⟩
            · rw [hLn, HVM.out.1]
              exact ownsRow_kept hvi (fun g hg => Below.heap_setCell _ _ _ _ (fun e => kb_apart hbk hvi (by simp) (by rw [hg]; exact congrArg some e)))
            · rw [hLn, HVM.out.2.1]
              exact ownsRow_kept hvm (fun g hg => Below.heap_setCell _ _ _ _ (fun e => kb_apart hbk hvm (by simp) (by rw [hg]; exact congrArg some e)))
            · intro e he
              refine (f3 e he).kept (f3 e he).lt (fun g cur _ hc => (Below.heap_setCell _ _ _ _ (fun e => ?_)).trans hc)
              simp only at e
              subst e
              have := hbk.symm.trans hc
              simp at this
          rw [show ((N + 1 : Nat) : Int) = (N : Int) + 1 from by omega] at hfin
          clear hG hbk hvi hvm f3 f4 f5 f6 f7 f8 f9 f10 f13 kb1
          go_wp2_with fail
          go_end0
          obtain ⟨es', p2, p3, p4⟩ := hfin.out
          exact ⟨rfl, es', p2, p3, p4⟩
end Go.Proofs.Ytpibpdpedjinhaa.Fr
