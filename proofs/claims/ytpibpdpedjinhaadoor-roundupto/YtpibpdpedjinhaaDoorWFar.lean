/- The walk of item.head's farBody: what it finds is Im.far. -/
import Derived.Test.YtpibpdpedjinhaaDoorWBody
import Derived.Lib.ConvBytes
import Derived.Laws.Bits64b
namespace Go.Proofs.YtpibpdpedjinhaaDoor
open Go.RowKit Go.Joins

theorem ext_list (s : ByteArray) (a b : Nat) : (s.extract a b).data.toList = (s.data.toList.take b).drop a := by
  simp [ByteArray.data_extract, Array.toList_extract, List.drop_take]
theorem val_lt : ∀ (l : List UInt8) (a k : Nat), a < 256 ^ k → Im.val l a < 256 ^ (k + l.length)
  | [], a, k, h => h
  | x :: l, a, k, h => by
    have := x.toNat_lt
    have h2 := val_lt l (256 * a + x.toNat) (k + 1) (by rw [Nat.pow_succ]; omega)
    simp only [Im.val, List.length_cons]
    rw [show k + (l.length + 1) = k + 1 + l.length from by omega]
    exact h2
theorem val_take (s : List UInt8) (k : Nat) (h : k < s.length) : Im.val (s.take (k + 1)) 0 = 256 * Im.val (s.take k) 0 + (s.getD k 0).toNat := by
  rw [List.take_succ_eq_append_getElem h, Im.val_append, List.getD_eq_getElem?_getD, List.getElem?_eq_getElem h]
  rfl
theorem or_byte (a c : Nat) (hc : c < 256) : (a * 256) ||| c = 256 * a + c := by
  have := Nat.two_pow_add_eq_or_of_lt (i := 8) (b := c) (by omega) a
  rw [show a * 256 = 2 ^ 8 * a from by omega, ← this]

theorem below_bytesWorld {B : Nat} {w u : World} (h : Below B w u) (hB : B ≤ u.heap.size) (e : TypeId) (s : ByteArray) : Below B w (Lib.bytesWorld u e s) :=
  h.trans ⟨rfl, rfl, rfl, by rw [Lib.bytesWorld_size]; omega, fun m hm => Lib.bytesWorld_at_old u e s m (by omega)⟩

set_option maxRecDepth 100000 in
set_option maxHeartbeats 1000000 in
theorem farBody_any (l : Bool) (x y : Int) (s : ByteArray) (f : Nat) (w : World) (hs : s.size ≤ 16777216) (hf : 2 ≤ f) (hf5 : f ≤ 5) :
    Calls Tryd.prog 61 #[.agg #[.bool l, .int .u8 x, .int .u8 y], .string s, .int .i64 f] w fun e w' => e = .returned (bodyV (Im.far l s.data.toList f)) ∧ Below w.heap.size w w' := by
  have hl := Lib.size_eq s
  have hb2 : ∀ (a b : Obj), Below w.heap.size w ((w.alloc a).alloc b) := fun a b => ((Below.refl _ w).alloc (Nat.le_refl _) _).alloc (by simp) _
  have Hb2 : Hid _ := hb2
  clear hb2
  by_cases h1 : s.size < f
  · have hR : Im.far l s.data.toList f = none := by unfold Im.far; rw [← hl, if_pos (.inl h1)]
    rw [hR]
    have h1' : (s.size : Int) < (f : Int) := by omega
    clear hR hl
    go_enter Tryd.func61, Tryd.ntmps61
    go_wp2_with fail
    exact bodyPost_ret (v := .tuple #[.agg #[.bool false, .int .i64 0, .int .i64 0], .bool false]) (by simp [results, Tryd.results61, go_sem]) rfl ⟨rfl, Hb2.out _ _⟩
  · have h1' : ¬ (s.size : Int) < (f : Int) := by omega
    have hfs : 1 < s.size := by omega
    have hx := fun u => idx_run u s 1 1 hfs rfl
    have hg1 := getD_byte s 1 hfs
    by_cases h2 : s[1] = 0
    · have hR : Im.far l s.data.toList f = none := by unfold Im.far; rw [hg1, if_pos (.inr h2)]
      rw [hR]
      have h2' : ((s[1].toNat : Int) == 0) = true := by rw [h2]; rfl
      clear hR hl
      go_enter Tryd.func61, Tryd.ntmps61
      go_wp2_with fail
      exact bodyPost_ret (v := .tuple #[.agg #[.bool false, .int .i64 0, .int .i64 0], .bool false]) (by simp [results, Tryd.results61, go_sem]) rfl ⟨rfl, Hb2.out _ _⟩
    · have h2' : ((s[1].toNat : Int) == 0) = false := by
        have : s[1].toNat ≠ 0 := fun e => h2 (UInt8.toNat_inj.1 e)
        simp
        omega
      obtain ⟨S, hS⟩ : ∃ S : ByteArray, s.extract 1 f = S := ⟨_, rfl⟩
      have hSl : S.data.toList = (s.data.toList.take f).drop 1 := by rw [← hS, ext_list]
      have hSs : S.size = f - 1 := by rw [← hS]; simp [ByteArray.size_extract]; omega
      have hcv := fun u : World => Lib.run_convert_string_bytes (P := Tryd.prog) u 9 69 5 S Tryd.underlying9 Tryd.underlying69 Tryd.underlying5
      have hR : Im.far l s.data.toList f = if Im.val S.data.toList 0 ≤ 55 then none else Im.chk l s.data.toList f (Im.val S.data.toList 0) := by
        unfold Im.far
        rw [← hl, hg1, if_neg (by intro h; rcases h with h | h; exact h1 h; exact h2 h), hSl]
      generalize Im.far l s.data.toList f = R at hR ⊢
      have HR : Hid _ := hR
      clear hR hl hSl hg1
      go_enter Tryd.func61, Tryd.ntmps61
      go_wp2_with fail
      obtain ⟨X, hX⟩ : ∃ X : World, X = ((w.alloc (Obj.cells #[Value.bool l, Value.int IntKind.u8 x, Value.int IntKind.u8 y] 100)).alloc (Obj.cells #[Value.bool false, Value.int IntKind.i64 0, Value.int IntKind.i64 0] 113)) := ⟨_, rfl⟩
      have hXs : X.heap.size = w.heap.size + 1 + 1 := by rw [hX]; simp
      have hXb : Below w.heap.size w X := by rw [hX]; exact Hb2.out _ _
      have hX0 : X.heap[w.heap.size]? = some (.cells #[Value.bool l, Value.int IntKind.u8 x, Value.int IntKind.u8 y] 100 (0, 0)) := by rw [hX, Below.heap_alloc _ _ _ (by simp)]; exact heap_alloc_new _ _
      have hX1 : X.heap[w.heap.size + 1]? = some (.cells #[Value.bool false, Value.int IntKind.i64 0, Value.int IntKind.i64 0] 113 (0, 0)) := by rw [hX]; have := heap_alloc_new (w.alloc (Obj.cells #[Value.bool l, Value.int IntKind.u8 x, Value.int IntKind.u8 y] 100)) (Obj.cells #[Value.bool false, Value.int IntKind.i64 0, Value.int IntKind.i64 0] 113); simpa using this
      rw [← hX]
      obtain ⟨Y, hY⟩ : ∃ Y : World, Y = Lib.bytesWorld X 5 S := ⟨_, rfl⟩
      have hYs : Y.heap.size = w.heap.size + 3 := by rw [hY, Lib.bytesWorld_size, hXs]
      have hYb : Below X.heap.size X Y := by rw [hY]; exact below_bytesWorld (Below.refl _ _) (Nat.le_refl _) _ _
      have hYc : ∀ k, k < S.size → Y.cell? ⟨w.heap.size + 1 + 1, k, none⟩ = some (.int .u8 (S.data.toList.getD k 0).toNat) := fun k hk => by rw [hY, ← hXs]; exact Lib.bytesWorld_cell X 5 S k hk
      rw [← hY]
      have hY0 := (hYb.block w.heap.size (by omega)).trans hX0
      have hY1 := (hYb.block (w.heap.size + 1) (by omega)).trans hX1
      have hYw : Below w.heap.size w Y := hXb.trans (hYb.mono (by omega))
      have hSl2 := Lib.size_eq S
      have HY : Hid _ := And.intro hYc (And.intro hY0 (And.intro hY1 hYw))
      have HSl2 : Hid _ := hSl2
      clear hX hY hYc hY0 hY1 hYw hYb hX0 hX1 hXb hSl2 hcv hx hS
      generalize grownCap X (f - 1) 0 5 = gc
      go_loopg [8, 26] (f - 1) (fun g v t wx => ∃ k : Nat, k ≤ f - 1 ∧ t = .int .i64 k ∧ v = .int .u64 (Im.val (S.data.toList.take k) 0 : Nat) ∧ g = f - 1 - k ∧ wx = Y)
      case atStart => exact ⟨0, Nat.zero_le _, rfl, rfl, rfl, rfl⟩
      case round =>
        obtain ⟨k, hk, rfl, rfl, rfl, rfl⟩ := hrel
        have hvl : Im.val (S.data.toList.take k) 0 < 4294967296 := by
          have := val_lt (S.data.toList.take k) 0 0 (by simp)
          have hle : 0 + (S.data.toList.take k).length ≤ 4 := by simp; omega
          have := Nat.pow_le_pow_right (n := 256) (by decide) hle
          omega
        by_cases hlt : k < f - 1
        · have hlt' : (k : Int) < ((f - 1 : Nat) : Int) := by omega
          have hc := HY.out.1 k (by omega)
          generalize hb : (S.data.toList.getD k 0).toNat = b at hc
          have hb8 : b < 256 := by rw [← hb]; exact UInt8.toNat_lt _
          have hvt := val_take S.data.toList k (by rw [← HSl2.out]; omega)
          rw [hb] at hvt
          have hvl2 : Im.val (S.data.toList.take k) 0 < 16777216 := by
            have := val_lt (S.data.toList.take k) 0 0 (by simp)
            have hle : 0 + (S.data.toList.take k).length ≤ 3 := by simp; omega
            have := Nat.pow_le_pow_right (n := 256) (by decide) hle
            omega
          generalize hV' : Im.val (S.data.toList.take (k + 1)) 0 = V' at hvt
          have HV' : Hid _ := hV'
          clear hV'
          generalize Im.val (S.data.toList.take k) 0 = V at *
          have Hb : Hid _ := hb
          clear hb
          go_wp2_with fail
          rw [show bits .or .u64 ((V : Int) * 256) (b : Int) = (V' : Int) from by
            rw [show (V : Int) * 256 = ((V * 256 : Nat) : Int) from by omega, bits_or_u64_nat _ _ (by omega) (by omega), or_byte V b hb8, hvt]]
          go_roundg (f - 1 - (k + 1))
          case measure => omega
          case rel =>
            refine ⟨k + 1, by omega, by go_num, ?_, rfl, rfl⟩
            rw [HV'.out]
        · have hlt' : ¬ (k : Int) < ((f - 1 : Nat) : Int) := by omega
          obtain rfl : k = f - 1 := by omega
          have hta : S.data.toList.take (f - 1) = S.data.toList := List.take_of_length_le (by rw [← HSl2.out]; omega)
          rw [hta] at hvl ⊢
          obtain ⟨_, hY0, hY1, hYw⟩ := HY.out
          generalize Im.val S.data.toList 0 = V at *
          have m0 : wr.cell? ⟨w.heap.size, 0, none⟩ = some (.bool l) := by rw [Lib.cell_of_heap hY0]; rfl
          have m1 : wr.cell? ⟨w.heap.size, 1, none⟩ = some (.int .u8 x) := by rw [Lib.cell_of_heap hY0]; rfl
          have m2 : wr.cell? ⟨w.heap.size, 2, none⟩ = some (.int .u8 y) := by rw [Lib.cell_of_heap hY0]; rfl
          have r0 : wr.cell? ⟨w.heap.size + 1, 0, none⟩ = some (.bool false) := by rw [Lib.cell_of_heap hY1]; rfl
          have r1 : wr.cell? ⟨w.heap.size + 1, 1, none⟩ = some (.int .i64 0) := by rw [Lib.cell_of_heap hY1]; rfl
          have r2 : wr.cell? ⟨w.heap.size + 1, 2, none⟩ = some (.int .i64 0) := by rw [Lib.cell_of_heap hY1]; rfl
          have fr := Lib.frozen_of_heap hY1
          have HYw : Hid _ := hYw
          have HY1 : Hid _ := hY1
          clear hY0 hY1 hYw HY
          by_cases h55 : V ≤ 55
          · have h55' : (V : Int) ≤ 55 := by omega
            have hR : R = none := by rw [HR.out, if_pos h55]
            have HRn : Hid _ := hR
            clear hR HR
            go_wp2_with fail
            exact bodyPost_ret (v := .tuple #[.agg #[.bool false, .int .i64 0, .int .i64 0], .bool false]) (by simp [results, Tryd.results61, go_sem, r0, r1, r2]) rfl ⟨by rw [HRn.out]; rfl, ((HYw.out.setCell (by simp) _).setCell (by simp) _).setCell (by simp) _⟩
          · have h55' : ¬ (V : Int) ≤ 55 := by omega
            have hR : R = Im.chk l s.data.toList f V := by rw [HR.out, if_neg h55]
            obtain ⟨b0, f0, t0, q0, hV⟩ : ∃ b0 f0 t0 q0, bodyV (Im.chk l s.data.toList f V) = .tuple #[.agg #[.bool b0, .int .i64 f0, .int .i64 t0], .bool q0] := by
              cases Im.chk l s.data.toList f V with
              | none => exact ⟨_, _, _, _, rfl⟩
              | some z => exact ⟨_, _, _, _, rfl⟩
            have HV : Hid _ := hV
            have HRn : Hid _ := hR
            clear hR HR hV
            go_wp2_with fail
            refine (body_any l x y s f V wr hs (by omega) hvl).mono ?_
            rintro e w3 ⟨rfl, hb3⟩
            rw [HV.out]
            have hy1 := (hb3.block (w.heap.size + 1) (by omega)).trans HY1.out
            have z0 : w3.cell? ⟨w.heap.size + 1, 0, none⟩ = some (.bool false) := by rw [Lib.cell_of_heap hy1]; rfl
            have z1 : w3.cell? ⟨w.heap.size + 1, 1, none⟩ = some (.int .i64 0) := by rw [Lib.cell_of_heap hy1]; rfl
            have z2 : w3.cell? ⟨w.heap.size + 1, 2, none⟩ = some (.int .i64 0) := by rw [Lib.cell_of_heap hy1]; rfl
            have fz := Lib.frozen_of_heap hy1
            have HB : Hid _ := HYw.out.trans (hb3.mono (by omega))
            clear r0 r1 r2 fr m0 m1 m2 hy1
            go_wp2_with fail
            exact bodyPost_ret (v := .tuple #[.agg #[.bool b0, .int .i64 f0, .int .i64 t0], .bool q0]) (by simp [results, Tryd.results61, go_sem, z0, z1, z2]) rfl ⟨by rw [HRn.out, HV.out], ((HB.out.setCell (by simp) _).setCell (by simp) _).setCell (by simp) _⟩
end Go.Proofs.YtpibpdpedjinhaaDoor
