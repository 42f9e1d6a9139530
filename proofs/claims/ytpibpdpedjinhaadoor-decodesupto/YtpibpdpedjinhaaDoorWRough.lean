/- The walk of tributaryref.rough: what it finds is Im.read2 Im.rb, in memory of its own. -/
import Derived.Test.YtpibpdpedjinhaaDoorWFirst2
namespace Go.Proofs.YtpibpdpedjinhaaDoor
open Go.RowKit Go.Joins

def RoughSaid (d : Nat) : Prop := ∀ (s : ByteArray) (deep : Nat) (w : World), s.size ≤ 16777216 → deep + d = 10 →
    Calls Tryd.prog 33 #[.string s, .int .i64 deep] w fun e w' => Got d w.heap.size w' e (Im.read2 Im.rb d s.data.toList) ∧ Below w.heap.size w w'

/-- where a body stands, by the first byte and the length that was read -/
theorem rb_near (s : ByteArray) (h0 : 0 < s.size) (h1 : 128 ≤ s[0].toNat) (h2 : s[0].toNat - (if 192 ≤ s[0].toNat then 192 else 128) ≤ 55) :
    Im.rb s.data.toList = if s.size < 1 + (s[0].toNat - (if 192 ≤ s[0].toNat then 192 else 128)) then none else some (decide (192 ≤ s[0].toNat), 1, 1 + (s[0].toNat - (if 192 ≤ s[0].toNat then 192 else 128))) := by
  have hg := getD_byte s 0 h0
  have hl := Lib.size_eq s
  cases hd : s.data.toList with
  | nil => exact absurd (show s.size = 0 from by rw [hl, hd]; rfl) (by omega)
  | cons c r =>
    rw [hd] at hg
    simp only [List.getD_cons_zero] at hg
    subst hg
    rw [hd] at hl
    simp only [Im.rb]
    rw [if_neg (by omega), if_pos h2, ← hl]
theorem rb_far (s : ByteArray) (h0 : 0 < s.size) (h1 : 128 ≤ s[0].toNat) (k : Nat) (h2 : s[0].toNat - (if 192 ≤ s[0].toNat then 192 else 128) = 55 + k) (hk : 1 ≤ k) :
    Im.rb s.data.toList = if 4 < k ∨ s.size < 1 + k then none else if s.size < 1 + k + Im.val ((s.data.toList.take (1 + k)).drop 1) 0 then none else some (decide (192 ≤ s[0].toNat), 1 + k, 1 + k + Im.val ((s.data.toList.take (1 + k)).drop 1) 0) := by
  have hg := getD_byte s 0 h0
  have hl := Lib.size_eq s
  cases hd : s.data.toList with
  | nil => exact absurd (show s.size = 0 from by rw [hl, hd]; rfl) (by omega)
  | cons c r =>
    rw [hd] at hg
    simp only [List.getD_cons_zero] at hg
    subst hg
    rw [hd] at hl
    simp only [Im.rb]
    rw [if_neg (by omega), if_neg (by omega), h2, Nat.add_sub_cancel_left, ← hl]
theorem rb_bare (s : ByteArray) (h0 : 0 < s.size) (h1 : s[0].toNat < 128) : Im.rb s.data.toList = some (false, 0, 1) := by
  have hg := getD_byte s 0 h0
  have hl := Lib.size_eq s
  cases hd : s.data.toList with
  | nil => exact absurd (show s.size = 0 from by rw [hl, hd]; rfl) (by omega)
  | cons c r =>
    rw [hd] at hg
    simp only [List.getD_cons_zero] at hg
    subst hg
    simp only [Im.rb]
    rw [if_pos h1]
theorem val_step (s : List UInt8) (k : Nat) (h1 : 1 ≤ k) (h : k < s.length) : Im.val ((s.take (k + 1)).drop 1) 0 = 256 * Im.val ((s.take k).drop 1) 0 + (s.getD k 0).toNat := by
  rw [List.take_succ_eq_append_getElem h, List.drop_append_of_le_length (by simp; omega), Im.val_append, List.getD_eq_getElem?_getD, List.getElem?_eq_getElem h]
  rfl

set_option maxRecDepth 100000 in
set_option maxHeartbeats 4000000 in
theorem rough_any : ∀ d : Nat, RoughSaid d := by
  intro d
  induction d with
  | zero =>
    intro s deep w hs hdd
    obtain rfl : deep = 10 := by omega
    rw [show Im.read2 Im.rb 0 s.data.toList = none from rfl]
    have hte := toList_empty s
    by_cases hz : s.size = 0
    · have he : s.toList.isEmpty = true := by rw [hte]; simp [hz]
      clear hte
      go_enter Tryd.func33, Tryd.ntmps33
      go_wp2_with fail
      exact bodyPost_ret (v := .tuple #[.agg #[.bool false, .string ⟨#[]⟩, .slice none 0 0], .int .i64 0, .bool false]) (by simp [results, Tryd.results33, go_sem]) rfl ⟨rfl, (Below.refl _ w).alloc (Nat.le_refl _) _⟩
    · have he : s.toList.isEmpty = false := by rw [hte]; simp [hz]
      clear hte
      go_enter Tryd.func33, Tryd.ntmps33
      go_wp2_with fail
      exact bodyPost_ret (v := .tuple #[.agg #[.bool false, .string ⟨#[]⟩, .slice none 0 0], .int .i64 0, .bool false]) (by simp [results, Tryd.results33, go_sem]) rfl ⟨rfl, (Below.refl _ w).alloc (Nat.le_refl _) _⟩
  | succ d ih =>
    intro s deep w hs hdd
    have hte := toList_empty s
    have hdp : ¬ (9 : Int) < (deep : Int) := by omega
    generalize hC : Im.read2 Im.rb (d + 1) s.data.toList = C
    have HC : Hid _ := hC
    have Hih : Hid _ := ih
    clear hC ih
    by_cases hz : s.size = 0
    · have he : s.toList.isEmpty = true := by rw [hte]; simp [hz]
      obtain rfl : C = none := by
        have : s.data.toList = [] := List.eq_nil_of_length_eq_zero (by rw [← Lib.size_eq]; exact hz)
        rw [← HC.out, this]
        rfl
      clear hte
      go_enter Tryd.func33, Tryd.ntmps33
      go_wp2_with fail
      exact bodyPost_ret (v := .tuple #[.agg #[.bool false, .string ⟨#[]⟩, .slice none 0 0], .int .i64 0, .bool false]) (by simp [results, Tryd.results33, go_sem]) rfl ⟨rfl, (Below.refl _ w).alloc (Nat.le_refl _) _⟩
    · have he : s.toList.isEmpty = false := by rw [hte]; simp [hz]
      have hfs : 0 < s.size := by omega
      have hx := fun u => idx_run u s 0 0 hfs rfl
      have hcl := s[0].toNat_lt
      have hnear := rb_near s hfs
      have hfar := rb_far s hfs
      have hbare := rb_bare s hfs
      have hext : s.extract 0 1 = ⟨#[s[0]]⟩ := by
        apply ByteArray.ext
        apply Array.toList_inj.1
        have hg := getD_byte s 0 hfs
        have hl := Lib.size_eq s
        rw [ext_list]
        cases hd : s.data.toList with
        | nil => exact absurd (show s.size = 0 from by rw [hl, hd]; rfl) (by omega)
        | cons c r => rw [hd] at hg; simp only [List.getD_cons_zero] at hg; rw [hg]; rfl
      have Hnear : Hid _ := hnear
      have Hfar : Hid _ := hfar
      have Hbare : Hid _ := hbare
      clear hte hnear hfar hbare
      by_cases h128 : s[0].toNat < 128
      · have h128' : (s[0].toNat : Int) < 128 := by omega
        have hCe := HC.out.symm.trans (Im.read2_str (Hbare.out h128))
        have hbytes : (⟨((s.data.toList.take 1).drop 0).toArray⟩ : ByteArray) = ⟨#[s[0]]⟩ := by rw [← hext, ← ext_list]
        clear hext
        have hx1 : s.extract 0 1 = ⟨#[s[0]]⟩ := by rw [← hbytes, ← ext_list]
        obtain rfl := hCe
        go_enter Tryd.func33, Tryd.ntmps33
        go_wp2_with fail
        refine bodyPost_ret (v := .tuple #[.agg #[.bool false, .string ⟨#[s[0]]⟩, .slice none 0 0], .int .i64 1, .bool true]) (by simp [results, Tryd.results33, go_sem]) rfl ⟨⟨none, 0, by rw [← hbytes]; rfl, ?_⟩, (Below.refl _ w).alloc (Nat.le_refl _) _⟩
        exact Tr.of_row (i := ⟨false, (s.data.toList.take 1).drop 0, []⟩) (Row.none _ _ _ _)
      · have h128' : ¬ (s[0].toNat : Int) < 128 := by omega
        clear hext Hbare
        obtain ⟨b0, hb0⟩ : ∃ b0 : Nat, b0 = if 192 ≤ s[0].toNat then 192 else 128 := ⟨_, rfl⟩
        have hnear := Hnear.out (by omega)
        have hfar := Hfar.out (by omega)
        rw [← hb0] at hnear hfar
        have hb1 : b0 = 192 ∧ 192 ≤ s[0].toNat ∨ b0 = 128 ∧ s[0].toNat < 192 := by
          rw [hb0]
          split
          · exact .inl ⟨rfl, by omega⟩
          · exact .inr ⟨rfl, by omega⟩
        clear Hnear Hfar hb0
        have hnear2 : s[0].toNat - b0 ≤ 55 → Im.rb s.data.toList = if s.size < 1 + (s[0].toNat - b0) then none else some (decide (b0 = 192), 1, 1 + (s[0].toNat - b0)) := by
          intro h
          rw [hnear h]
          congr 3
          rcases hb1 with ⟨e1, e2⟩ | ⟨e1, e2⟩
          · simp [e1, e2]
          · rw [e1, decide_eq_false (by omega), decide_eq_false (by omega)]
        have hfar2 : ∀ k, s[0].toNat - b0 = 55 + k → 1 ≤ k → Im.rb s.data.toList = if 4 < k ∨ s.size < 1 + k then none else if s.size < 1 + k + Im.val ((s.data.toList.take (1 + k)).drop 1) 0 then none else some (decide (b0 = 192), 1 + k, 1 + k + Im.val ((s.data.toList.take (1 + k)).drop 1) 0) := by
          intro k h1 h2
          rw [hfar k h1 h2]
          congr 4
          rcases hb1 with ⟨e1, e2⟩ | ⟨e1, e2⟩
          · simp [e1, e2]
          · rw [e1, decide_eq_false (by omega), decide_eq_false (by omega)]
        have Hnear : Hid _ := hnear2
        have Hfar : Hid _ := hfar2
        have Hb1 : Hid _ := hb1
        have hb2 : b0 ≤ s[0].toNat := by omega
        clear hnear hfar hnear2 hfar2
        obtain ⟨X, hX⟩ : ∃ X : World, X = w.alloc (.cells #[.bool false, .string ⟨#[]⟩, .slice none 0 0] 24) := ⟨_, rfl⟩
        have hXs : X.heap.size = w.heap.size + 1 := by rw [hX]; simp
        have hXb : Below w.heap.size w X := by rw [hX]; exact (Below.refl _ w).alloc (Nat.le_refl _) _
        have hX0 : X.heap[w.heap.size]? = some (.cells #[.bool false, .string ⟨#[]⟩, .slice none 0 0] 24 (0, 0)) := by rw [hX]; exact heap_alloc_new _ _
        go_enter Tryd.func33, Tryd.ntmps33
        go_upto_if 34 with fail
        rw [← hX]
        have z0 : X.cell? ⟨w.heap.size, 0, none⟩ = some (.bool false) := by rw [Lib.cell_of_heap hX0]; rfl
        have z1 : X.cell? ⟨w.heap.size, 1, none⟩ = some (.string ⟨#[]⟩) := by rw [Lib.cell_of_heap hX0]; rfl
        have z2 : X.cell? ⟨w.heap.size, 2, none⟩ = some (.slice none 0 0) := by rw [Lib.cell_of_heap hX0]; rfl
        have fz := Lib.frozen_of_heap hX0
        clear hX
        go_cut [8] (fun v wx => v = .int .i64 b0 ∧ wx = X)
        case first =>
          rcases Hb1.out with ⟨rfl, h2⟩ | ⟨rfl, h2⟩
          · have h2' : (192 : Int) ≤ (s[0].toNat : Int) := by omega
            go_wp2_with fail
            go_meet
            exact ⟨rfl, rfl⟩
          · have h2' : ¬ (192 : Int) ≤ (s[0].toNat : Int) := by omega
            go_wp2_with fail
            go_meet
            exact ⟨rfl, rfl⟩
        case rest =>
          obtain ⟨rfl, rfl⟩ := hcut
          go_upto_if 39 with fail
          go_cut [9, 10] (fun v9 v10 wx => ∃ f m : Nat, v9 = .int .i64 m ∧ v10 = .int .i64 f ∧ wx = wc ∧ Hid (Im.rb s.data.toList = if s.size < f + m then none else some (decide (b0 = 192), f, f + m)) ∧ 1 ≤ f ∧ f ≤ 5 ∧ m < 4294967296)
          case first =>
            by_cases hn : s[0].toNat - b0 ≤ 55
            · have hn' : ¬ (55 : Int) < (s[0].toNat : Int) - (b0 : Int) := by omega
              go_wp2_with fail
              go_meet
              exact ⟨1, s[0].toNat - b0, congrArg (Value.int .i64) (by omega), rfl, rfl, Hnear.out hn, by omega, by omega, by omega⟩
            · obtain ⟨k, hk⟩ : ∃ k, s[0].toNat - b0 = 55 + k := ⟨s[0].toNat - b0 - 55, by omega⟩
              have hk1 : 1 ≤ k := by omega
              have hfar := Hfar.out k hk hk1
              have hkI : (s[0].toNat : Int) - (b0 : Int) = 55 + (k : Int) := by omega
              have hn' : (55 : Int) < (s[0].toNat : Int) - (b0 : Int) := by omega
              have HkI : Hid _ := hkI
              clear hkI
              by_cases h4 : 4 < k
              · rw [if_pos (.inl h4)] at hfar
                obtain rfl : C = none := HC.out.symm.trans (Im.read2_none hfar)
                have h4' : (4 : Int) < (s[0].toNat : Int) - (b0 : Int) - 55 := by omega
                clear hfar
                go_wp2_with fail
                exact bodyPost_ret (v := .tuple #[.agg #[.bool false, .string ⟨#[]⟩, .slice none 0 0], .int .i64 0, .bool false]) (by simp [results, Tryd.results33, go_sem, z0, z1, z2]) rfl ⟨rfl, ((hXb.setCell (by simp) _).setCell (by simp) _).setCell (by simp) _⟩
              · by_cases h5 : s.size < 1 + k
                · rw [if_pos (.inr h5)] at hfar
                  obtain rfl : C = none := HC.out.symm.trans (Im.read2_none hfar)
                  have h4' : ¬ (4 : Int) < (s[0].toNat : Int) - (b0 : Int) - 55 := by omega
                  have h5' : (s.size : Int) < 1 + ((s[0].toNat : Int) - (b0 : Int) - 55) := by omega
                  clear hfar
                  go_wp2_with fail
                  exact bodyPost_ret (v := .tuple #[.agg #[.bool false, .string ⟨#[]⟩, .slice none 0 0], .int .i64 0, .bool false]) (by simp [results, Tryd.results33, go_sem, z0, z1, z2]) rfl ⟨rfl, ((hXb.setCell (by simp) _).setCell (by simp) _).setCell (by simp) _⟩
                · rw [if_neg (by omega)] at hfar
                  have h4' : ¬ (4 : Int) < (s[0].toNat : Int) - (b0 : Int) - 55 := by omega
                  have h5' : ¬ (s.size : Int) < 1 + ((s[0].toNat : Int) - (b0 : Int) - 55) := by omega
                  have Hf : Hid _ := hfar
                  clear hfar
                  go_wp2_with fail
                  have hv1 : Im.val ((s.data.toList.take 1).drop 1) 0 = 0 := by rw [List.drop_eq_nil_of_le (by simp; omega)]; rfl
                  go_loopg [9, 12] k (fun g v9 v12 wx => ∃ j : Nat, 1 ≤ j ∧ j ≤ k + 1 ∧ v12 = .int .i64 j ∧ v9 = .int .i64 (Im.val ((s.data.toList.take j).drop 1) 0 : Nat) ∧ g = k + 1 - j ∧ wx = wc)
                  case atStart => exact ⟨1, Nat.le_refl _, by omega, rfl, by rw [hv1]; rfl, by omega, rfl⟩
                  case round =>
                    obtain ⟨j, hj1, hj2, rfl, rfl, rfl, rfl⟩ := hrel
                    by_cases hj : j ≤ k
                    · have hj' : (j : Int) ≤ (s[0].toNat : Int) - (b0 : Int) - 55 := by have := HkI.out; omega
                      have hjs : j < s.size := by omega
                      have hx2 := fun u => idx_run u s j j hjs rfl
                      have hst := val_step s.data.toList j hj1 (by rw [← Lib.size_eq]; exact hjs)
                      rw [getD_byte s j hjs] at hst
                      have hvl : Im.val ((s.data.toList.take j).drop 1) 0 < 16777216 := by
                        have := val_lt ((s.data.toList.take j).drop 1) 0 0 (by simp)
                        have hle : 0 + ((s.data.toList.take j).drop 1).length ≤ 3 := by simp; omega
                        have := Nat.pow_le_pow_right (n := 256) (by decide) hle
                        omega
                      obtain ⟨bj, hbj⟩ : ∃ bj : Nat, s[j].toNat = bj := ⟨_, rfl⟩
                      have hbl : bj < 256 := by rw [← hbj]; exact UInt8.toNat_lt _
                      rw [hbj] at hst
                      simp only [hbj] at hx2
                      generalize hV' : Im.val ((s.data.toList.take (j + 1)).drop 1) 0 = V' at hst
                      have HV' : Hid _ := hV'
                      have Hst : Hid _ := hst
                      clear hV' hst
                      generalize Im.val ((s.data.toList.take j).drop 1) 0 = V at *
                      clear hbj
                      go_wp2_with fail
                      go_roundg (k + 1 - (j + 1))
                      case measure => omega
                      case rel => exact ⟨j + 1, by omega, by omega, by go_num, by rw [HV'.out, Hst.out]; exact congrArg (Value.int .i64) (by omega), rfl, rfl⟩
                    · obtain rfl : j = k + 1 := by omega
                      have hj' : ¬ ((k + 1 : Nat) : Int) ≤ (s[0].toNat : Int) - (b0 : Int) - 55 := by have := HkI.out; omega
                      have hvl : Im.val ((s.data.toList.take (k + 1)).drop 1) 0 < 4294967296 := by
                        have := val_lt ((s.data.toList.take (k + 1)).drop 1) 0 0 (by simp)
                        have hle : 0 + ((s.data.toList.take (k + 1)).drop 1).length ≤ 4 := by simp; omega
                        have := Nat.pow_le_pow_right (n := 256) (by decide) hle
                        omega
                      have hf2 := Hf.out
                      rw [Nat.add_comm 1 k] at hf2
                      have Hf2 : Hid _ := hf2
                      clear hf2
                      generalize hV : Im.val ((s.data.toList.take (k + 1)).drop 1) 0 = V at *
                      have HV : Hid _ := hV
                      clear hV
                      go_wp2_with fail
                      go_meet
                      refine ⟨k + 1, V, rfl, congrArg (Value.int .i64) (by have := HkI.out; omega), rfl, ?_, by omega, by omega, hvl⟩
                      exact Hf2.out
          case rest =>
            obtain ⟨f, m, rfl, rfl, hwx, Hrb, hf1, hf5, hm⟩ := hcut
            subst hwx
            by_cases hlen : s.size < f + m
            · have hrb := Hrb.out
              rw [if_pos hlen] at hrb
              obtain rfl : C = none := HC.out.symm.trans (Im.read2_none hrb)
              have hlen' : (s.size : Int) < (f : Int) + (m : Int) := by omega
              clear hrb
              go_wp2_with fail
              exact bodyPost_ret (v := .tuple #[.agg #[.bool false, .string ⟨#[]⟩, .slice none 0 0], .int .i64 0, .bool false]) (by simp [results, Tryd.results33, go_sem, z0, z1, z2]) rfl ⟨rfl, ((hXb.setCell (by simp) _).setCell (by simp) _).setCell (by simp) _⟩
            · have hrb := Hrb.out
              rw [if_neg hlen] at hrb
              have hlen' : ¬ (s.size : Int) < (f : Int) + (m : Int) := by omega
              obtain ⟨S, hS⟩ : ∃ S : ByteArray, s.extract f (f + m) = S := ⟨_, rfl⟩
              have hSl : S.data.toList = (s.data.toList.take (f + m)).drop f := by rw [← hS, ext_list]
              have hSs : S.size = m := by rw [← hS]; simp; omega
              have hS2 : (⟨((s.data.toList.take (f + m)).drop f).toArray⟩ : ByteArray) = S := by rw [← hSl]
              rcases Hb1.out with ⟨rfl, h2⟩ | ⟨rfl, h2⟩
              · have hCe : C = _ := HC.out.symm.trans (Im.read2_list (b := Im.rb) hrb)
                rw [← hSl] at hCe
                have HCe : Hid _ := hCe
                clear hrb hCe hSl hS2 hb1 Hrb Hb1
                go_wp2_with fail
                obtain ⟨Y, hY⟩ : ∃ Y : World, Y = wc.alloc (.cells #[.bool true, .string ⟨#[]⟩, .slice none 0 0] 24) := ⟨_, rfl⟩
                have hYs : Y.heap.size = w.heap.size + 2 := by rw [hY]; simp; omega
                have hYr : Y.heap[w.heap.size]? = some (.cells #[.bool false, .string ⟨#[]⟩, .slice none 0 0] 24 (0, 0)) := by rw [hY, Below.heap_alloc _ _ _ (by omega)]; exact hX0
                have hYo : Y.heap[w.heap.size + 1]? = some (.cells #[.bool true, .string ⟨#[]⟩, .slice none 0 0] 24 (0, 0)) := by
                  rw [hY]
                  have := heap_alloc_new wc (.cells #[.bool true, .string ⟨#[]⟩, .slice none 0 0] 24)
                  rw [hXs] at this
                  exact this
                have hYb : Below w.heap.size w Y := by rw [hY]; exact hXb.alloc (by omega) _
                have hwcs : wc.heap.size = w.heap.size + 1 := hXs
                rw [← hY]
                obtain ⟨i0, hi, hzz0, hzz1, hzz2⟩ := info_parts info_item
                have Hi : Hid _ := And.intro hi (And.intro hzz0 (And.intro hzz1 hzz2))
                have HY : Hid _ := And.intro hYs (And.intro hYr (And.intro hYo hYb))
                have hfair := Im.read2_fair Im.rb_body d
                have Hfair : Hid _ := hfair
                clear hY hYs hYr hYo hYb hi hzz0 hzz1 hzz2 hX0 hXb hXs z0 z1 z2 fz hwcs hfair
                go_loopg [13] S.size (fun g v wx => ∃ (ks : List Im.It) (p : Nat) (B : ByteArray) (va : Option Addr) (vcap : Nat), v = .string B ∧ g = B.size ∧ Hid (B.data.toList = S.data.toList.drop p ∧ Im.Eats (Im.read2 Im.rb d) S.data.toList ks p ∧ wx.heap[w.heap.size + 1]? = some (.cells #[.bool true, .string ⟨#[]⟩, .slice va ks.length vcap] 24 (0, 0)) ∧ Row wx d (w.heap.size + 2) wx.heap.size (.slice va ks.length vcap) ks ∧ Below (w.heap.size + 1) Y wx))
                case atStart => exact ⟨[], 0, S, none, 0, rfl, rfl, rfl, Im.Eats.nil, HY.out.2.2.1, Row.none _ _ _ _, Below.refl _ _⟩
                case round =>
                  obtain ⟨ks, p, B, va, vcap, rfl, rfl, HI⟩ := hrel
                  obtain ⟨hBl, heat, ho, hrow, hb⟩ := HI.out
                  obtain ⟨hYs, hYr, hYo, hYb⟩ := HY.out
                  have hsz := hb.size
                  have hlep := heat.le Hfair.out
                  rw [← Lib.size_eq] at hlep
                  have hBs : B.size = S.size - p := by rw [Lib.size_eq, hBl, List.length_drop, ← Lib.size_eq]
                  have hbw : Below w.heap.size w wr := hYb.trans (hb.mono (by omega))
                  have hr := (hb.block w.heap.size (by omega)).trans hYr
                  have hteB := toList_empty B
                  by_cases hB0 : B.size = 0
                  · have heB : B.toList.isEmpty = true := by rw [hteB]; simp [hB0]
                    have hm := heat.all Hfair.out s.data.toList.length (by rw [← Lib.size_eq, ← Lib.size_eq]; omega) (by rw [← Lib.size_eq]; omega)
                    obtain rfl : C = some (⟨true, [], ks⟩, f + m) := by rw [HCe.out, hm]; rfl
                    have o0 : wr.cell? ⟨w.heap.size + 1, 0, none⟩ = some (.bool true) := by rw [Lib.cell_of_heap ho]; rfl
                    have o1 : wr.cell? ⟨w.heap.size + 1, 1, none⟩ = some (.string ⟨#[]⟩) := by rw [Lib.cell_of_heap ho]; rfl
                    have o2 : wr.cell? ⟨w.heap.size + 1, 2, none⟩ = some (.slice va ks.length vcap) := by rw [Lib.cell_of_heap ho]; rfl
                    have z0 : wr.cell? ⟨w.heap.size, 0, none⟩ = some (.bool false) := by rw [Lib.cell_of_heap hr]; rfl
                    have z1 : wr.cell? ⟨w.heap.size, 1, none⟩ = some (.string ⟨#[]⟩) := by rw [Lib.cell_of_heap hr]; rfl
                    have z2 : wr.cell? ⟨w.heap.size, 2, none⟩ = some (.slice none 0 0) := by rw [Lib.cell_of_heap hr]; rfl
                    have fz := Lib.frozen_of_heap hr
                    have Hrow : Hid _ := hrow
                    clear hrow hr ho heat hBl hYr hYo hteB hm HI HY HCe
                    go_wp2_with fail
                    refine bodyPost_ret (v := .tuple #[.agg #[.bool true, .string ⟨#[]⟩, .slice va ks.length vcap], .int .i64 ((f : Int) + (m : Int)), .bool true]) (by simp [results, Tryd.results33, go_sem, z0, z1, z2]) rfl ⟨⟨va, vcap, by simp only [Int.natCast_add], ?_⟩, ((hbw.setCell (by simp) _).setCell (by simp) _).setCell (by simp) _⟩
                    have r2 := Row.wider (lo' := w.heap.size) (Row.kept (w' := ((wr.setCell ⟨w.heap.size, 0, none⟩ (.bool true)).setCell ⟨w.heap.size, 1, none⟩ (.string ⟨#[]⟩)).setCell ⟨w.heap.size, 2, none⟩ (.slice va ks.length vcap)) Hrow.out (fun k k1 _ => by rw [Below.heap_setCell _ _ _ _ (by simp; omega), Below.heap_setCell _ _ _ _ (by simp; omega), Below.heap_setCell _ _ _ _ (by simp; omega)])) (by omega) (Nat.le_refl _)
                    exact Tr.of_row (i := ⟨true, [], ks⟩) (Row.wider r2 (Nat.le_refl _) (by simp [World.setCell]))
                  · have heB : B.toList.isEmpty = false := by rw [hteB]; simp [hB0]
                    have hcall := fun (_ : Unit) => Hih.out B (deep + 1) wr (by omega) (by omega)
                    rw [show ((deep + 1 : Nat) : Int) = (deep : Int) + 1 from by omega] at hcall
                    generalize hG : Im.read2 Im.rb d B.data.toList = G at hcall
                    have Hcall : Hid _ := hcall
                    have HG : Hid _ := hG
                    clear hcall hG hteB
                    have Hr : Hid _ := hr
                    have Hrow : Hid _ := hrow
                    have Ho : Hid _ := ho
                    clear hr hrow ho
                    go_wp2_with fail
                    refine (Hcall.out ()).mono ?_
                    rintro e w1 ⟨hg1, hb1⟩
                    have s1 := hb1.size
                    have hr1 := (hb1.block w.heap.size (by omega)).trans Hr.out
                    have ho1 := (hb1.block (w.heap.size + 1) (by omega)).trans Ho.out
                    cases G with
                    | none =>
                      obtain rfl := hg1
                      have hm := heat.stuck Hfair.out s.data.toList.length (by rw [← Lib.size_eq, ← Lib.size_eq]; omega) (by rw [← Lib.size_eq]; omega) (by rw [← hBl]; exact HG.out)
                      obtain rfl : C = none := by rw [HCe.out, hm]; rfl
                      have hza : ∀ o : Obj, (w1.alloc o).heap[w.heap.size]? = some (.cells #[.bool false, .string ⟨#[]⟩, .slice none 0 0] 24 (0, 0)) := fun o => (Below.heap_alloc _ _ _ (by omega)).trans hr1
                      have y0 : ∀ o : Obj, (w1.alloc o).cell? ⟨w.heap.size, 0, none⟩ = some (.bool false) := fun o => by rw [Lib.cell_of_heap (hza o)]; rfl
                      have y1 : ∀ o : Obj, (w1.alloc o).cell? ⟨w.heap.size, 1, none⟩ = some (.string ⟨#[]⟩) := fun o => by rw [Lib.cell_of_heap (hza o)]; rfl
                      have y2 : ∀ o : Obj, (w1.alloc o).cell? ⟨w.heap.size, 2, none⟩ = some (.slice none 0 0) := fun o => by rw [Lib.cell_of_heap (hza o)]; rfl
                      have fy : ∀ (o : Obj) (j : Nat), (w1.alloc o).frozen? ⟨w.heap.size, j, none⟩ = false := fun o j => Lib.frozen_of_heap (hza o) j
                      have hbw1 : Below w.heap.size w w1 := hbw.trans (hb1.mono (by omega))
                      clear hza hr1 ho1 hm heat hBl hYr hYo HI HY HCe
                      go_wp2_with fail
                      exact bodyPost_ret (v := .tuple #[.agg #[.bool false, .string ⟨#[]⟩, .slice none 0 0], .int .i64 0, .bool false]) (by simp [results, Tryd.results33, go_sem, y0, y1, y2]) rfl ⟨rfl, (((hbw1.alloc hbw1.size _).setCell (by simp) _).setCell (by simp) _).setCell (by simp) _⟩
                    | some x =>
                      obtain ⟨i, n⟩ := x
                      obtain ⟨a1, cap1, rfl, ht1⟩ := hg1
                      simp only at ht1 ⊢
                      have hfa := Hfair.out _ _ _ HG.out
                      rw [← Lib.size_eq] at hfa
                      obtain ⟨IB, hIB⟩ : ∃ IB : ByteArray, (⟨i.bytes.toArray⟩ : ByteArray) = IB := ⟨_, rfl⟩
                      rw [hIB] at ht1 ⊢
                      have Ht1 : Hid _ := ht1
                      obtain ⟨xs, L, H, q1, q2, q3, q4, q5⟩ := Hrow.out
                      have hoa : ∀ o o' : Obj, ((w1.alloc o).alloc o').heap[w.heap.size + 1]? = some (.cells #[.bool true, .string ⟨#[]⟩, .slice va ks.length vcap] 24 (0, 0)) := fun o o' => (Below.heap_alloc _ _ _ (by simp; omega)).trans ((Below.heap_alloc _ _ _ (by omega)).trans ho1)
                      have y2 : ∀ o : Obj, (w1.alloc o).cell? ⟨w.heap.size + 1, 2, none⟩ = some (.slice va ks.length vcap) := fun o => by rw [Lib.cell_of_heap ((Below.heap_alloc _ _ _ (by omega)).trans ho1)]; rfl
                      have hown3 := fun o1 o2 : Obj => ((own_below q1 hb1).alloc o1).alloc o2
                      have Hq : Hid _ := And.intro q1 (And.intro q3 (And.intro q4 q5))
                      have Hown3 : Hid _ := hown3
                      have Hoa : Hid _ := hoa
                      clear q1 q2 q3 q4 q5 hown3 hoa ht1 ho1 hr1
                      go_wp2_with (at_builtin; refine wpList_append_mine _ rfl (.tmp 101) (.tmp 103) 22 rfl (w.heap.size + 2) 24 i0 _ 3 48 Tryd.underlying22 Hi.out.1 Hi.out.2.1 Hi.out.2.2.1 Hi.out.2.2.2 rfl (by decide) _ ks.length xs rfl (Hown3.out _ _) ⟨w1.heap.size + 1, 0, none⟩ 1 1 [.bool i.list, .string IB, .slice a1 i.kids.length cap1] rfl (by decide) rfl ?c1 ?c2 ?c3 ?c4 ?c5 ?_)
                      case c1 =>
                        intro j u hj
                        match j, hj with
                        | 0, hj => simp at hj; subst hj; simp [Addr.add]
                        | 1, hj => simp at hj; subst hj; simp [Addr.add]
                        | 2, hj => simp at hj; subst hj; simp [Addr.add]
                      case c2 =>
                        intro u hu
                        simp at hu
                        rcases hu with rfl | rfl | rfl <;> rfl
                      case c3 => unfold maxLen; omega
                      case c4 => omega
                      case c5 => simp; omega
                      · intro v' w4 hown4 hgr hat
                        obtain ⟨q1, q3, q4, q5⟩ := Hq.out
                        have hob : ∀ m, Value.ownBlock (.slice va ks.length vcap) = some m → w.heap.size + 2 ≤ m := fun m hm => (own_lt q1 hm).1
                        have hrow4 := Row.step (w := wr) (w1 := w1) (v := .slice va ks.length vcap) (by omega) q1 q3 q4 q5 Ht1.out hb1 (below_alloc2 (Below.refl _ w1) (Nat.le_refl _) _ _) hown4 hgr (by simpa using hat)
                        have s4 := hgr.size
                        simp only [World.size_alloc] at s4
                        have ho4 : w4.heap[w.heap.size + 1]? = _ := (hgr.block _ (by simp; omega) (fun e => by have := hob _ e.symm; omega)).trans (Hoa.out _ _)
                        have hb4 : Below (w.heap.size + 1) Y w4 := Below.grown (below_alloc2 (hb.trans (hb1.mono (by omega))) (by omega) _ _) hgr (by simp; omega) (fun m hm => by have := hob m hm; omega)
                        obtain ⟨g, cap', rfl⟩ := owns_shape hown4 (by omega)
                        have m2 : w4.cell? ⟨w.heap.size + 1, 2, none⟩ = some (.slice va ks.length vcap) := by rw [Lib.cell_of_heap ho4]; rfl
                        have fm := Lib.frozen_of_heap ho4
                        have H4 : Hid _ := And.intro hrow4 (And.intro ho4 hb4)
                        clear hown4 hgr hat hrow4 ho4 hb4 q1 q3 q4 q5 hob
                        have hnB : (n : Int) ≤ (B.size : Int) := by omega
                        go_wp2_with fail
                        have hEl : (B.extract n (m - p)).data.toList = B.data.toList.drop n := by
                          rw [ext_list, List.take_of_length_le (by rw [← Lib.size_eq]; omega)]
                        have hEs : (B.extract n (m - p)).size = B.size - n := by rw [Lib.size_eq, hEl, List.length_drop, ← Lib.size_eq]
                        go_roundg (B.size - n)
                        case measure => omega
                        case rel =>
                          obtain ⟨hrow4, ho4, hb4⟩ := H4.out
                          refine ⟨ks ++ [i], p + n, B.extract n (m - p), some ⟨g, 0, none⟩, cap', rfl, hEs.symm, ?_, ?_, ?_, ?_, ?_⟩
                          · rw [hEl, hBl, List.drop_drop]
                          · exact Im.Eats.snoc heat (by rw [← Lib.size_eq]; omega) (by rw [← hBl]; exact HG.out)
                          · have := block_setCell ho4 (i := 2) (Value.slice (some ⟨g, 0, none⟩) (ks.length + 1) cap')
                            rw [show (ks ++ [i]).length = ks.length + 1 from by simp]
                            simpa using this
                          · rw [show (ks ++ [i]).length = ks.length + 1 from by simp]
                            exact Row.wider (Row.kept hrow4 (fun k k1 _ => Below.heap_setCell _ _ _ _ (by simp; omega))) (Nat.le_refl _) (by simp [World.setCell])
                          · exact hb4.setCell (by simp) _
              · obtain rfl := HC.out.symm.trans (Im.read2_str (b := Im.rb) hrb)
                clear hrb hb1 Hrb Hb1
                go_wp2_with fail
                refine bodyPost_ret (v := .tuple #[.agg #[.bool false, .string S, .slice none 0 0], .int .i64 ((f : Int) + (m : Int)), .bool true]) (by simp [results, Tryd.results33, go_sem, z0, z1, z2]) rfl ⟨⟨none, 0, by simp only [hS2, Int.natCast_add]; rfl, ?_⟩, ((hXb.setCell (by simp) _).setCell (by simp) _).setCell (by simp) _⟩
                exact Tr.of_row (i := ⟨false, (s.data.toList.take (f + m)).drop f, []⟩) (Row.none _ _ _ _)
end Go.Proofs.YtpibpdpedjinhaaDoor
