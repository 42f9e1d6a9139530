/- The walk of item.firstBody: what it finds is Im.body. -/
import Derived.Test.YtpibpdpedjinhaaDoorWFar
import Derived.Test.YtpibpdpedjinhaaDoorWEncode
namespace Go.Proofs.YtpibpdpedjinhaaDoor
open Go.RowKit Go.Joins

theorem heads0 (u : World) : (Instr.index 111 (.agg #[.bool false, .int .u8 128, .int .u8 183, .bool true, .int .u8 192, .int .u8 247]) (.int .i64 0)).run Tryd.prog u = .ok (.agg #[.bool false, .int .u8 128, .int .u8 183]) u := by
  simp [Instr.index, run_underlying Tryd.underlying111, asIntOf, go_sem]
theorem heads1 (u : World) : (Instr.index 111 (.agg #[.bool false, .int .u8 128, .int .u8 183, .bool true, .int .u8 192, .int .u8 247]) (.int .i64 1)).run Tryd.prog u = .ok (.agg #[.bool true, .int .u8 192, .int .u8 247]) u := by
  simp [Instr.index, run_underlying Tryd.underlying111, asIntOf, go_sem]

set_option maxRecDepth 100000 in
set_option maxHeartbeats 1000000 in
theorem firstBody_any (s : ByteArray) (w : World) (hs : s.size ≤ 16777216) (hH : Heads w) :
    Calls Tryd.prog 53 #[.string s] w fun e w' => e = .returned (bodyV (Im.body s.data.toList)) ∧ Below w.heap.size w w' := by
  have hl := Lib.size_eq s
  have h0 := hH.pos
  have hte := toList_empty s
  by_cases hz : s.size = 0
  · have hR : Im.body s.data.toList = none := by
      have : s.data.toList = [] := List.eq_nil_of_length_eq_zero (by omega)
      rw [this]
      rfl
    rw [hR]
    have he : s.toList.isEmpty = true := by rw [hte]; simp [hz]
    clear hR hl hte
    go_enter Tryd.func53, Tryd.ntmps53
    go_wp2_with fail
    exact bodyPost_ret (v := .tuple #[.agg #[.bool false, .int .i64 0, .int .i64 0], .bool false]) (by simp [results, Tryd.results53, go_sem]) rfl ⟨rfl, (Below.refl _ w).alloc (Nat.le_refl _) _⟩
  · have he : s.toList.isEmpty = false := by rw [hte]; simp [hz]
    have hfs : 0 < s.size := by omega
    have hx := fun u => idx_run u s 0 0 hfs rfl
    obtain ⟨c, hc⟩ : ∃ c : UInt8, s[0] = c := ⟨_, rfl⟩
    have hcl := c.toNat_lt
    rw [hc] at hx
    have hR : Im.body s.data.toList = if c.toNat < 128 then some (false, 0, 1)
    else if c.toNat ≤ 183 then Im.chk false s.data.toList 1 (c.toNat - 128)
    else if c.toNat ≤ 187 then Im.far false s.data.toList (1 + (c.toNat - 183))
    else if c.toNat < 192 then none
    else if c.toNat ≤ 247 then Im.chk true s.data.toList 1 (c.toNat - 192)
    else if c.toNat ≤ 251 then Im.far true s.data.toList (1 + (c.toNat - 247))
    else none := by
      have hg := getD_byte s 0 hfs
      rw [hc] at hg
      cases hd : s.data.toList with
      | nil => exact absurd (by rw [hl, hd]; rfl) hz
      | cons a r =>
        rw [hd] at hg
        simp at hg
        subst hg
        rfl
    generalize Im.body s.data.toList = R at hR ⊢
    have HR : Hid _ := hR
    clear hR hl hte hc
    generalize hn : c.toNat = n at *
    clear hn
    by_cases h128 : n < 128
    · have h128' : (n : Int) < 128 := by omega
      go_enter Tryd.func53, Tryd.ntmps53
      go_wp2_with fail
      exact bodyPost_ret (v := .tuple #[.agg #[.bool false, .int .i64 0, .int .i64 1], .bool true]) (by simp [results, Tryd.results53, go_sem]) rfl ⟨by rw [HR.out, if_pos h128]; rfl, (Below.refl _ w).alloc (Nat.le_refl _) _⟩
    · have h128' : ¬ (n : Int) < 128 := by omega
      have hH1 := hH
      obtain ⟨⟨a0, a1, a2⟩, a3, a4, a5⟩ := hH1
      simp only [Nat.zero_add, Nat.reduceAdd] at a1 a2 a4 a5
      obtain ⟨X, hX⟩ : ∃ X : World, X = w.alloc (.cells #[.bool false, .int .i64 0, .int .i64 0] 113) := ⟨_, rfl⟩
      have hXs : X.heap.size = w.heap.size + 1 := by rw [hX]; simp
      have hXb : Below w.heap.size w X := by rw [hX]; exact (Below.refl _ w).alloc (Nat.le_refl _) _
      have hX0 : X.heap[w.heap.size]? = some (.cells #[.bool false, .int .i64 0, .int .i64 0] 113 (0, 0)) := by rw [hX]; exact heap_alloc_new _ _
      have hV : ∀ R' : Option (Bool × Nat × Nat), ∃ b0 f0 t0 q0, bodyV R' = .tuple #[.agg #[.bool b0, .int .i64 f0, .int .i64 t0], .bool q0] := by
        intro R'
        cases R' with
        | none => exact ⟨_, _, _, _, rfl⟩
        | some z => exact ⟨_, _, _, _, rfl⟩
      have HV0 : Hid _ := hV
      clear hV
      go_enter Tryd.func53, Tryd.ntmps53
      go_wp2_with fail
      rw [← hX]
      have HX : Hid _ := And.intro hXs (And.intro hXb hX0)
      clear hX hXs hXb hX0 a0 a1 a2 a3 a4 a5
      go_loopg [16] 2 (fun g t wx => ∃ k : Nat, k ≤ 2 ∧ t = .int .i64 k ∧ g = 2 - k ∧ Below (w.heap.size + 1) X wx ∧ (1 ≤ k → 187 < n) ∧ (k = 2 → n < 192 ∨ 251 < n))
      case atStart => exact ⟨0, Nat.zero_le _, rfl, rfl, Below.refl _ _, fun h => by omega, fun h => by omega⟩
      case round =>
        obtain ⟨k, hk, rfl, rfl, hb, hk1, hk2⟩ := hrel
        obtain ⟨hXs, hXb, hX0⟩ := HX.out
        have hsz := hb.size
        rw [hXs] at hsz
        have hy0 := (hb.block w.heap.size (by omega)).trans hX0
        have hbw : Below w.heap.size w wr := hXb.trans (hb.mono (by omega))
        have hi0 := heads0
        have hi1 := heads1
        match k, hk with
        | 0, _ =>
          have hkn := hk1
          by_cases h1 : 128 ≤ n ∧ n ≤ 183
          · obtain ⟨g1, g2⟩ := h1
            have hR : R = Im.chk false s.data.toList 1 (n - 128) := by rw [HR.out]; repeat' first | rw [if_neg (by omega)] | rw [if_pos (by omega)]
            obtain ⟨b0, f0, t0, q0, hV⟩ := HV0.out (Im.chk false s.data.toList 1 (n - 128))
            have HV : Hid _ := hV
            have HRn : Hid _ := hR
            have Hy0 : Hid _ := hy0
            clear hR HR hV hy0 hX0
            have hc1 : (128 : Int) ≤ (n : Int) := by omega
            have hc2 : (n : Int) ≤ 183 := by omega
            go_wp2_with fail
            rw [show (n : Int) - 128 = ((n - 128 : Nat) : Int) from by omega]
            refine (body_any false 128 183 s 1 (n - 128) _ hs (by omega) (by omega)).mono ?_
            rintro e w3 ⟨rfl, hb3⟩
            have hb4 : Below (w.heap.size + 1) X w3 := (hb.alloc hsz _).trans (hb3.mono (by simp; omega))
            rw [HV.out]
            have hy1 := (hb3.block w.heap.size (by simp; omega)).trans ((Below.heap_alloc _ _ _ (by omega)).trans Hy0.out)
            have z0 : w3.cell? ⟨w.heap.size, 0, none⟩ = some (.bool false) := by rw [Lib.cell_of_heap hy1]; rfl
            have z1 : w3.cell? ⟨w.heap.size, 1, none⟩ = some (.int .i64 0) := by rw [Lib.cell_of_heap hy1]; rfl
            have z2 : w3.cell? ⟨w.heap.size, 2, none⟩ = some (.int .i64 0) := by rw [Lib.cell_of_heap hy1]; rfl
            have fz := Lib.frozen_of_heap hy1
            have HB : Hid (Below w.heap.size w w3) := hXb.trans (hb4.mono (by omega))
            clear hy1 hb3 hb4 hb hbw
            go_wp2_with fail
            exact bodyPost_ret (v := .tuple #[.agg #[.bool b0, .int .i64 f0, .int .i64 t0], .bool q0]) (by simp [results, Tryd.results53, go_sem, z0, z1, z2]) rfl ⟨by rw [HRn.out, HV.out], ((HB.out.setCell (by simp) _).setCell (by simp) _).setCell (by simp) _⟩
          · by_cases h2 : 183 < n ∧ n ≤ 187
            · obtain ⟨g1, g2⟩ := h2
              have hR : R = Im.far false s.data.toList (1 + (n - 183)) := by rw [HR.out]; repeat' first | rw [if_neg (by omega)] | rw [if_pos (by omega)]
              obtain ⟨b0, f0, t0, q0, hV⟩ := HV0.out (Im.far false s.data.toList (1 + (n - 183)))
              have HV : Hid _ := hV
              have HRn : Hid _ := hR
              have Hy0 : Hid _ := hy0
              clear hR HR hV hy0 hX0
              have hc1 : (183 : Int) < (n : Int) := by omega
              have hc2 : (n : Int) ≤ 187 := by omega
              go_wp2_with fail
              rw [show 1 + ((n : Int) - 183) = ((1 + (n - 183) : Nat) : Int) from by omega]
              refine (farBody_any false 128 183 s (1 + (n - 183)) _ hs (by omega) (by omega)).mono ?_
              rintro e w3 ⟨rfl, hb3⟩
              have hb4 : Below (w.heap.size + 1) X w3 := (hb.alloc hsz _).trans (hb3.mono (by simp; omega))
              rw [HV.out]
              have hy1 := (hb3.block w.heap.size (by simp; omega)).trans ((Below.heap_alloc _ _ _ (by omega)).trans Hy0.out)
              have z0 : w3.cell? ⟨w.heap.size, 0, none⟩ = some (.bool false) := by rw [Lib.cell_of_heap hy1]; rfl
              have z1 : w3.cell? ⟨w.heap.size, 1, none⟩ = some (.int .i64 0) := by rw [Lib.cell_of_heap hy1]; rfl
              have z2 : w3.cell? ⟨w.heap.size, 2, none⟩ = some (.int .i64 0) := by rw [Lib.cell_of_heap hy1]; rfl
              have fz := Lib.frozen_of_heap hy1
              have HB : Hid (Below w.heap.size w w3) := hXb.trans (hb4.mono (by omega))
              clear hy1 hb3 hb4 hb hbw
              go_wp2_with fail
              exact bodyPost_ret (v := .tuple #[.agg #[.bool b0, .int .i64 f0, .int .i64 t0], .bool q0]) (by simp [results, Tryd.results53, go_sem, z0, z1, z2]) rfl ⟨by rw [HRn.out, HV.out], ((HB.out.setCell (by simp) _).setCell (by simp) _).setCell (by simp) _⟩
            · have h3 : 187 < n := by omega
              have hc1 : (128 : Int) ≤ (n : Int) := by omega
              have hc2 : (183 : Int) < (n : Int) := by omega
              have hc3 : (187 : Int) < (n : Int) := by omega
              clear hy0 hX0
              go_wp2_with fail
              go_roundg 1
              case measure => omega
              case rel => exact ⟨1, by omega, rfl, rfl, hb.alloc hsz _, fun _ => h3, fun h => by omega⟩
        | 1, _ =>
          have hkn := hk1
          have h187 := hk1 (by omega)
          by_cases h1 : 192 ≤ n ∧ n ≤ 247
          · obtain ⟨g1, g2⟩ := h1
            have hR : R = Im.chk true s.data.toList 1 (n - 192) := by rw [HR.out]; repeat' first | rw [if_neg (by omega)] | rw [if_pos (by omega)]
            obtain ⟨b0, f0, t0, q0, hV⟩ := HV0.out (Im.chk true s.data.toList 1 (n - 192))
            have HV : Hid _ := hV
            have HRn : Hid _ := hR
            have Hy0 : Hid _ := hy0
            clear hR HR hV hy0 hX0
            have hc1 : (192 : Int) ≤ (n : Int) := by omega
            have hc2 : (n : Int) ≤ 247 := by omega
            go_wp2_with fail
            rw [show (n : Int) - 192 = ((n - 192 : Nat) : Int) from by omega]
            refine (body_any true 192 247 s 1 (n - 192) _ hs (by omega) (by omega)).mono ?_
            rintro e w3 ⟨rfl, hb3⟩
            have hb4 : Below (w.heap.size + 1) X w3 := (hb.alloc hsz _).trans (hb3.mono (by simp; omega))
            rw [HV.out]
            have hy1 := (hb3.block w.heap.size (by simp; omega)).trans ((Below.heap_alloc _ _ _ (by omega)).trans Hy0.out)
            have z0 : w3.cell? ⟨w.heap.size, 0, none⟩ = some (.bool false) := by rw [Lib.cell_of_heap hy1]; rfl
            have z1 : w3.cell? ⟨w.heap.size, 1, none⟩ = some (.int .i64 0) := by rw [Lib.cell_of_heap hy1]; rfl
            have z2 : w3.cell? ⟨w.heap.size, 2, none⟩ = some (.int .i64 0) := by rw [Lib.cell_of_heap hy1]; rfl
            have fz := Lib.frozen_of_heap hy1
            have HB : Hid (Below w.heap.size w w3) := hXb.trans (hb4.mono (by omega))
            clear hy1 hb3 hb4 hb hbw
            go_wp2_with fail
            exact bodyPost_ret (v := .tuple #[.agg #[.bool b0, .int .i64 f0, .int .i64 t0], .bool q0]) (by simp [results, Tryd.results53, go_sem, z0, z1, z2]) rfl ⟨by rw [HRn.out, HV.out], ((HB.out.setCell (by simp) _).setCell (by simp) _).setCell (by simp) _⟩
          · by_cases h2 : 247 < n ∧ n ≤ 251
            · obtain ⟨g1, g2⟩ := h2
              have hR : R = Im.far true s.data.toList (1 + (n - 247)) := by rw [HR.out]; repeat' first | rw [if_neg (by omega)] | rw [if_pos (by omega)]
              obtain ⟨b0, f0, t0, q0, hV⟩ := HV0.out (Im.far true s.data.toList (1 + (n - 247)))
              have HV : Hid _ := hV
              have HRn : Hid _ := hR
              have Hy0 : Hid _ := hy0
              clear hR HR hV hy0 hX0
              have hc1 : (247 : Int) < (n : Int) := by omega
              have hc2 : (n : Int) ≤ 251 := by omega
              go_wp2_with fail
              rw [show 1 + ((n : Int) - 247) = ((1 + (n - 247) : Nat) : Int) from by omega]
              refine (farBody_any true 192 247 s (1 + (n - 247)) _ hs (by omega) (by omega)).mono ?_
              rintro e w3 ⟨rfl, hb3⟩
              have hb4 : Below (w.heap.size + 1) X w3 := (hb.alloc hsz _).trans (hb3.mono (by simp; omega))
              rw [HV.out]
              have hy1 := (hb3.block w.heap.size (by simp; omega)).trans ((Below.heap_alloc _ _ _ (by omega)).trans Hy0.out)
              have z0 : w3.cell? ⟨w.heap.size, 0, none⟩ = some (.bool false) := by rw [Lib.cell_of_heap hy1]; rfl
              have z1 : w3.cell? ⟨w.heap.size, 1, none⟩ = some (.int .i64 0) := by rw [Lib.cell_of_heap hy1]; rfl
              have z2 : w3.cell? ⟨w.heap.size, 2, none⟩ = some (.int .i64 0) := by rw [Lib.cell_of_heap hy1]; rfl
              have fz := Lib.frozen_of_heap hy1
              have HB : Hid (Below w.heap.size w w3) := hXb.trans (hb4.mono (by omega))
              clear hy1 hb3 hb4 hb hbw
              go_wp2_with fail
              exact bodyPost_ret (v := .tuple #[.agg #[.bool b0, .int .i64 f0, .int .i64 t0], .bool q0]) (by simp [results, Tryd.results53, go_sem, z0, z1, z2]) rfl ⟨by rw [HRn.out, HV.out], ((HB.out.setCell (by simp) _).setCell (by simp) _).setCell (by simp) _⟩
            · have h3 : n < 192 ∨ 251 < n := by omega
              clear hy0 hX0
              rcases h3 with h3 | h3
              · have hc1 : (n : Int) < 192 := by omega
                have hc2 : (n : Int) ≤ 247 := by omega
                go_wp2_with fail
                go_roundg 0
                case measure => omega
                case rel => exact ⟨2, by omega, rfl, rfl, hb.alloc hsz _, fun _ => h187, fun _ => by omega⟩
              · have hc1 : (192 : Int) ≤ (n : Int) := by omega
                have hc2 : (247 : Int) < (n : Int) := by omega
                have hc3 : (251 : Int) < (n : Int) := by omega
                go_wp2_with fail
                go_roundg 0
                case measure => omega
                case rel => exact ⟨2, by omega, rfl, rfl, hb.alloc hsz _, fun _ => h187, fun _ => by omega⟩
        | 2, _ =>
          have hkn := hk2 rfl
          have hR : R = none := by rw [HR.out]; repeat' first | rw [if_neg (by omega)] | split | rfl | omega
          have HRn : Hid _ := hR
          have z0 : wr.cell? ⟨w.heap.size, 0, none⟩ = some (.bool false) := by rw [Lib.cell_of_heap hy0]; rfl
          have z1 : wr.cell? ⟨w.heap.size, 1, none⟩ = some (.int .i64 0) := by rw [Lib.cell_of_heap hy0]; rfl
          have z2 : wr.cell? ⟨w.heap.size, 2, none⟩ = some (.int .i64 0) := by rw [Lib.cell_of_heap hy0]; rfl
          have fz := Lib.frozen_of_heap hy0
          have HB : Hid _ := hbw
          clear hy0 hX0 hR HR hb hbw
          go_wp2_with fail
          exact bodyPost_ret (v := .tuple #[.agg #[.bool false, .int .i64 0, .int .i64 0], .bool false]) (by simp [results, Tryd.results53, go_sem, z0, z1, z2]) rfl ⟨by rw [HRn.out]; rfl, ((HB.out.setCell (by simp) _).setCell (by simp) _).setCell (by simp) _⟩
end Go.Proofs.YtpibpdpedjinhaaDoor
