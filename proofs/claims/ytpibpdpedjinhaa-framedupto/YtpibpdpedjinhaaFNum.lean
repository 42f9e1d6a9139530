/- The walks of frame.number and strings.Clone. -/
import Derived.Test.YtpibpdpedjinhaaFRef
import Derived.Test.YtpibpdpedjinhaaFRange
import Derived.Lib.ConvBytes
import Derived.Laws.Bits64b
import Derived.Shelf.Abstract
import Derived.Shelf.Strconv.Clone
namespace Go.Proofs.Ytpibpdpedjinhaa.Fr
open Go.RowKit Go.Joins Go.Shelf

theorem or_byte (a c : Nat) (hc : c < 256) : (a * 256) ||| c = 256 * a + c := by
  have := Nat.two_pow_add_eq_or_of_lt (i := 8) (b := c) (by omega) a
  rw [show a * 256 = 2 ^ 8 * a from by omega, ← this]
theorem bits_or_u32_nat (a b : Nat) (ha : a < 4294967296) (hb : b < 4294967296) : bits .or .u32 (a : Int) (b : Int) = ((a ||| b : Nat) : Int) := by
  have hx : a ||| b < 2 ^ 32 := Nat.or_lt_two_pow (by omega) (by omega)
  have h1 : (BitVec.ofInt 32 (a : Int)).toNat = a := by
    rw [BitVec.ofInt_natCast, BitVec.toNat_ofNat]; exact Nat.mod_eq_of_lt (by omega)
  have h2 : (BitVec.ofInt 32 (b : Int)).toNat = b := by
    rw [BitVec.ofInt_natCast, BitVec.toNat_ofNat]; exact Nat.mod_eq_of_lt (by omega)
  show IntKind.u32.wrap ((BitVec.ofInt 32 (a : Int) ||| BitVec.ofInt 32 (b : Int)).toNat : Int) = _
  rw [BitVec.toNat_or, h1, h2, IntKind.wrap_u32]
  omega
theorem below_bytesWorld {B : Nat} {w u : World} (h : Below B w u) (hB : B ≤ u.heap.size) (e : TypeId) (s : ByteArray) : Below B w (Lib.bytesWorld u e s) :=
  h.trans ⟨rfl, rfl, rfl, by rw [Lib.bytesWorld_size]; omega, fun m hm => Lib.bytesWorld_at_old u e s m (by omega)⟩
theorem big_drop (s : List UInt8) (p q : Nat) : ∀ k, big (s.drop p) q k = big s (p + q) k
  | 0 => rfl
  | k + 1 => by
    rw [big, big, big_drop s p q k, List.getD_eq_getElem?_getD, List.getD_eq_getElem?_getD, List.getElem?_drop, Nat.add_assoc]
theorem big_take (s : List UInt8) (q m : Nat) : ∀ k, q + k ≤ m → big (s.take m) q k = big s q k
  | 0, _ => rfl
  | k + 1, h => by
    rw [big, big, big_take s q m k (by omega), List.getD_eq_getElem?_getD, List.getD_eq_getElem?_getD, List.getElem?_take_of_lt (by omega)]
theorem big_cut (s : List UInt8) (p k : Nat) : big ((s.take (p + k)).drop p) 0 k = big s p k := by
  rw [big_drop, Nat.add_zero, big_take _ _ _ _ (Nat.le_refl _)]
theorem one_drop (s : List UInt8) (p : Nat) (hp : p ≤ s.length) : one s p = one (s.drop p) 0 := by
  unfold one
  rw [big_drop, big_drop, big_drop, List.length_drop]
  simp only [Nat.add_zero, Nat.zero_add]
  have e : (s.drop p).getD (8 + big s (p + 6) 2) 0 = s.getD (p + 8 + big s (p + 6) 2) 0 := by
    rw [List.getD_eq_getElem?_getD, List.getD_eq_getElem?_getD, List.getElem?_drop, Nat.add_assoc]
  have e2 : ((s.drop p).take (8 + big s (p + 6) 2)).drop 8 = (s.take (p + 8 + big s (p + 6) 2)).drop (p + 8) := by
    rw [List.take_drop, List.drop_drop]
    congr 1
    rw [Nat.add_assoc]
  rw [e, e2]
  by_cases h1 : s.length < p + 9
  · rw [if_pos h1, if_pos (show s.length - p < 9 by omega)]
  · rw [if_neg h1, if_neg (show ¬ s.length - p < 9 by omega)]
    by_cases h2 : s.length < p + 9 + big s (p + 6) 2
    · rw [if_pos h2, if_pos (show s.length - p < 9 + big s (p + 6) 2 by omega)]
    · rw [if_neg h2, if_neg (show ¬ s.length - p < 9 + big s (p + 6) 2 by omega)]

set_option maxRecDepth 100000 in
set_option maxHeartbeats 1000000 in
theorem number_any (s : ByteArray) (w : World) (hs : s.size ≤ 4) :
    Calls Try.prog 38 #[.string s] w fun e w' => e = .returned (.int .u32 (big s.data.toList 0 s.size : Nat)) ∧ Below w.heap.size w w' := by
  have hcv := fun u : World => Lib.run_convert_string_bytes (P := Try.prog) u 9 47 5 s Try.underlying9 Try.underlying47 Try.underlying5
  go_enter Try.func38, Try.ntmps38
  go_wp2_with fail
  obtain ⟨Y, hY⟩ : ∃ Y : World, Y = Lib.bytesWorld w 5 s := ⟨_, rfl⟩
  have hYb : Below w.heap.size w Y := by rw [hY]; exact below_bytesWorld (Below.refl _ _) (Nat.le_refl _) _ _
  have hYc : ∀ k, k < s.size → Y.cell? ⟨w.heap.size, k, none⟩ = some (.int .u8 (s.data.toList.getD k 0).toNat) := fun k hk => by rw [hY]; exact Lib.bytesWorld_cell w 5 s k hk
  rw [← hY]
  have HY : Hid _ := And.intro hYc hYb
  clear hY hYc hYb hcv
  generalize grownCap w s.size 0 5 = gc
  go_loopg [3, 9] s.size (fun g v t wx => ∃ k : Nat, k ≤ s.size ∧ t = .int .i64 k ∧ v = .int .u32 (big s.data.toList 0 k : Nat) ∧ g = s.size - k ∧ wx = Y)
  case atStart => exact ⟨0, Nat.zero_le _, rfl, rfl, rfl, rfl⟩
  case round =>
    obtain ⟨k, hk, rfl, rfl, rfl, rfl⟩ := hrel
    by_cases hlt : k < s.size
    · have hlt' : (k : Int) < (s.size : Int) := by omega
      have hc := HY.out.1 k (by omega)
      have hvt : big s.data.toList 0 (k + 1) = 256 * big s.data.toList 0 k + (s.data.toList.getD k 0).toNat := by rw [big, Nat.zero_add]
      generalize hb : (s.data.toList.getD k 0).toNat = b at hc hvt
      have hb8 : b < 256 := by rw [← hb]; exact UInt8.toNat_lt _
      have hvl2 : big s.data.toList 0 k < 16777216 := by
        have := big_lt s.data.toList 0 k
        have := Nat.pow_le_pow_right (n := 256) (by decide) (show k ≤ 3 by omega)
        omega
      generalize hV' : big s.data.toList 0 (k + 1) = V' at hvt
      have HV' : Hid _ := hV'
      clear hV'
      generalize big s.data.toList 0 k = V at *
      have Hb : Hid _ := hb
      clear hb
      go_wp2_with fail
      rw [show bits .or .u32 ((V : Int) * 256) (b : Int) = (V' : Int) from by
        rw [show (V : Int) * 256 = ((V * 256 : Nat) : Int) from by omega, bits_or_u32_nat _ _ (by omega) (by omega), or_byte V b hb8, hvt]]
      go_roundg (s.size - (k + 1))
      case measure => omega
      case rel =>
        refine ⟨k + 1, by omega, by go_num, ?_, rfl, rfl⟩
        rw [HV'.out]
    · have hlt' : ¬ (k : Int) < (s.size : Int) := by omega
      obtain rfl : k = s.size := by omega
      go_wp2_with fail
      go_ret
      exact ⟨rfl, HY.out.2⟩
def ren3 : Go.Shelf.Ren := ⟨fun | 316 => 40 | n => n, fun | 0 => 0 | 3 => 3 | 4 => 4 | 5 => 5 | 9 => 9 | 37 => 47 | 127 => 74 | n => n, fun | n => n⟩
theorem lays316 : Go.Proofs.LaysM.n316 Try.prog ren3 := {
  mixed := by kernel_rfl
  f316 := Try.func40.trans (congrArg some (by kernel_rfl))
  t0 := Try.underlying0
  a0 := Try.isAgg0
  z0 := Try.sizeOf0
  v0 := Try.zeroValue0
  t3 := Try.underlying3
  a3 := Try.isAgg3
  z3 := Try.sizeOf3
  v3 := Try.zeroValue3
  t4 := Try.underlying4
  a4 := Try.isAgg4
  z4 := Try.sizeOf4
  v4 := Try.zeroValue4
  t5 := Try.underlying5
  a5 := Try.isAgg5
  z5 := Try.sizeOf5
  v5 := Try.zeroValue5
  t9 := Try.underlying9
  a9 := Try.isAgg9
  z9 := Try.sizeOf9
  v9 := Try.zeroValue9
  t37 := Try.underlying47
  a37 := Try.isAgg47
  z37 := Try.sizeOf47
  v37 := Try.zeroValue47
  t127 := Try.underlying74
  a127 := Try.isAgg74
  z127 := Try.sizeOf74
  v127 := Try.zeroValue74
  i0 := by kernel_rfl
  i3 := by kernel_rfl
  i4 := by kernel_rfl
  i5 := by kernel_rfl
  i9 := by kernel_rfl
  i37 := by kernel_rfl
  i127 := by kernel_rfl }
set_option maxRecDepth 100000 in
theorem clone_any (s : ByteArray) (w : World) (hs : s.size ≤ 16777216) : Calls Try.prog 39 #[.string s] w fun e w' => e = .returned (.string s) ∧ Below w.heap.size w w' := by
  go_enter Try.func39, Try.ntmps39
  go_wp2_with fail
  refine (Any.stringslite_Clone (ρ := ren3) lays316 s w (by omega)).mono ?_
  rintro e w1 ⟨rfl, hb⟩
  go_wp2_with fail
  go_ret
  exact ⟨rfl, hb⟩
end Go.Proofs.Ytpibpdpedjinhaa.Fr
