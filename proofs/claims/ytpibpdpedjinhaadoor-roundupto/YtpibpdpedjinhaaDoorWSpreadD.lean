/- The walks of code.firstPiece and code.Spread: what they give is Sq.piece and Sq.spread, for strings of at most 2^40 bytes. -/
import Derived.Test.YtpibpdpedjinhaaDoorChecked
import Derived.Test.YtpibpdpedjinhaaDoorShelf
import Derived.Test.YtpibpdpedjinhaaDoorPlain
import Derived.Test.YtpibpdpedjinhaaDoorWRefCode2
import Derived.WalkKit
import Derived.WalkSpells
import Derived.BigCall
namespace Go.Proofs.YtpibpdpedjinhaaDoor
open Go.RowKit

theorem extract_list (s : ByteArray) (i j : Nat) : (s.extract i j).data.toList = (s.data.toList.take j).drop i := by
  simp [ByteArray.data_extract, Array.toList_extract, List.drop_take]
theorem mk_list (s : ByteArray) : (⟨s.data.toList.toArray⟩ : ByteArray) = s := rfl

def strLen : Value → Nat | .string s => s.size | _ => 0
/-- what the first piece of a string's bytes is -/
theorem piece_eq (s : ByteArray) (h0 : 0 < s.size) : Sq.piece s.data.toList =
    if s[0].toNat < 128 then (if s[0].toNat + 2 ≤ s.size then some ((s.extract 1 (s[0].toNat + 2)).data.toList, s[0].toNat + 2) else none)
    else if s[0].toNat = 128 then none
    else if 2 ≤ s.size then some (Lib.repeatL (s.extract 1 2).data.toList (257 - s[0].toNat), 2) else none := by
  obtain ⟨d⟩ := s
  obtain ⟨l⟩ := d
  cases l with
  | nil => simp [ByteArray.size] at h0
  | cons c r =>
    have e0 : (⟨⟨c :: r⟩⟩ : ByteArray)[0] = c := rfl
    have e1 : (⟨⟨c :: r⟩⟩ : ByteArray).size = r.length + 1 := rfl
    rw [e0, e1]
    simp only [extract_list, Sq.piece]
    split
    · by_cases h : c.toNat + 1 ≤ r.length
      · rw [if_pos h, if_pos (by omega)]
        rfl
      · rw [if_neg h, if_neg (by omega)]
    · split
      · rfl
      · cases r with
        | nil => simp
        | cons b q =>
          simp only [List.length_cons]
          rw [if_pos (by omega)]
          have := Lib.repeatL_replicate b 1 (257 - c.toNat)
          simp only [Nat.mul_one] at this
          rw [← this]
          rfl

set_option maxRecDepth 100000 in
set_option maxHeartbeats 400000 in
theorem fp_lit (s : ByteArray) (w : World) (h0 : 0 < s.size) (hc : (s[0].toNat : Int) < 128) (hl : (s[0].toNat : Int) + 2 ≤ s.size) :
    Calls Tryd.prog 26 #[.string s] w fun e w' => e = .returned (.tuple #[.string (s.extract 1 (s[0].toNat + 2)), .int .i64 (s[0].toNat + 2), .bool true]) ∧ w' = w := by
  go_enter Tryd.func26, Tryd.ntmps26
  go_wp2_with fail
  go_ret3
  exact ⟨rfl, rfl⟩

set_option maxRecDepth 100000 in
set_option maxHeartbeats 400000 in
theorem fp_run (s : ByteArray) (L : List UInt8) (w : World) (hm : s.size ≤ maxLen) (h0 : 0 < s.size) (hc : 128 < (s[0].toNat : Int)) (hl : 2 ≤ (s.size : Int)) (HL : Hid (Lib.repeatL (s.extract 1 2).data.toList (257 - s[0].toNat) = L)) :
    Calls Tryd.prog 26 #[.string s] w fun e w' => e = .returned (.tuple #[.string ⟨L.toArray⟩, .int .i64 2, .bool true]) ∧ Below w.heap.size w w' := by
  unfold maxLen at hm
  have hb := s[0].toNat_lt
  have hb2 : (s[0].toNat : Int) < 256 := by omega
  clear hb
  go_enter Tryd.func26, Tryd.ntmps26
  go_wp2_with fail
  rw [show ((257 : Int) - (s[0].toNat : Int)) = ((257 - s[0].toNat : Nat) : Int) from by omega]
  refine (repeated _ _ _ (by omega) (by
    have : (s.extract 1 2).size ≤ 1 := by simp [ByteArray.size_extract]; omega
    have := Nat.mul_le_mul this (show 257 - s[0].toNat ≤ 257 from by omega)
    omega)).mono ?_
  rintro e w1 ⟨rfl, hb1⟩
  rw [HL.out]
  go_wp2
  go_ret3
  exact ⟨rfl, hb1⟩

set_option maxRecDepth 100000 in
set_option maxHeartbeats 400000 in
theorem fp_no (s : ByteArray) (w : World) (hm : s.size ≤ maxLen) (h0 : 0 < s.size) (hc : (s[0].toNat : Int) = 128 ∨ (128 < (s[0].toNat : Int) ∧ (s.size : Int) < 2) ∨ ((s[0].toNat : Int) < 128 ∧ (s.size : Int) < (s[0].toNat : Int) + 2)) :
    Calls Tryd.prog 26 #[.string s] w fun e w' => e = .returned (.tuple #[.string ⟨#[]⟩, .int .i64 0, .bool false]) ∧ w' = w := by
  unfold maxLen at hm
  have hb := s[0].toNat_lt
  have hb2 : (s[0].toNat : Int) < 256 := by omega
  clear hb
  rcases hc with hc | ⟨hc, hd⟩ | ⟨hc, hd⟩
  · have hq : ((s[0].toNat : Int) == 128) = true := by simp [hc]
    clear hc
    go_enter Tryd.func26, Tryd.ntmps26
    go_wp2_with fail
    go_ret3
    exact ⟨rfl, rfl⟩
  · go_enter Tryd.func26, Tryd.ntmps26
    go_wp2_with fail
    go_ret3
    exact ⟨rfl, rfl⟩
  · go_enter Tryd.func26, Tryd.ntmps26
    go_wp2_with fail
    go_ret3
    exact ⟨rfl, rfl⟩
theorem fp_some (s : ByteArray) (t : List UInt8) (n : Nat) (w : World) (hm : s.size ≤ maxLen) (hp : Sq.piece s.data.toList = some (t, n)) :
    Calls Tryd.prog 26 #[.string s] w fun e w' => e = .returned (.tuple #[.string ⟨t.toArray⟩, .int .i64 n, .bool true]) ∧ Below w.heap.size w w' := by
  have h0 : 0 < s.size := by
    have := (Sq.piece_le _ _ _ hp)
    rw [Lib.size_eq]
    omega
  rw [piece_eq s h0] at hp
  split at hp
  · split at hp
    · simp only [Option.some.injEq, Prod.mk.injEq] at hp
      obtain ⟨rfl, rfl⟩ := hp
      refine (fp_lit s w h0 (by omega) (by omega)).mono ?_
      rintro e w' ⟨rfl, rfl⟩
      exact ⟨rfl, Below.refl _ _⟩
    · simp at hp
  · split at hp
    · simp at hp
    · split at hp
      · simp only [Option.some.injEq, Prod.mk.injEq] at hp
        obtain ⟨rfl, rfl⟩ := hp
        exact fp_run s _ w hm h0 (by omega) (by omega) rfl
      · simp at hp
theorem fp_none (s : ByteArray) (w : World) (hm : s.size ≤ maxLen) (h0 : 0 < s.size) (hp : Sq.piece s.data.toList = none) :
    Calls Tryd.prog 26 #[.string s] w fun e w' => e = .returned (.tuple #[.string ⟨#[]⟩, .int .i64 0, .bool false]) ∧ w' = w := by
  rw [piece_eq s h0] at hp
  refine fp_no s w hm h0 ?_
  split at hp
  · split at hp
    · simp at hp
    · right; right; omega
  · split at hp
    · left; omega
    · split at hp
      · simp at hp
      · right; left; omega

set_option maxRecDepth 100000 in
set_option maxHeartbeats 1000000 in
theorem spread_any (s : ByteArray) (most : Int) (w : World) (hs : s.size ≤ 2097152) (hm1 : -9223372036854775808 ≤ most) (hm2 : most ≤ 9223372036854775807) :
    Calls Tryd.prog 16 #[.string s, .int .i64 most] w fun e w' => e = .returned (.tuple #[.string ⟨(Sq.spread s.size s.data.toList most []).1.toArray⟩, .bool (Sq.spread s.size s.data.toList most []).2]) ∧ Below w.heap.size w w' := by
  generalize hR : Sq.spread s.size s.data.toList most [] = R
  have HR : Hid _ := hR
  clear hR
  go_enter Tryd.func16, Tryd.ntmps16
  go_wp2_with fail
  go_loopw [0] (fun v wr => ∃ (s' : ByteArray) (f : Nat) (out : List UInt8), v = .string s' ∧ s'.size ≤ f ∧ Sq.spread f s'.data.toList most out = R ∧ out.length + 128 * s'.size ≤ 268435456 ∧ (out = [] ∨ (out.length : Int) ≤ most) ∧ IsB w.heap.size w.heap.size out wr ∧ Below w.heap.size w wr) (fun v _ => strLen v)
  case atStart =>
    refine ⟨s, s.size, [], rfl, Nat.le_refl _, HR.out, by simp; omega, .inl rfl, fresh w, (Below.refl _ w).alloc (Nat.le_refl _) _⟩
  case round =>
    obtain ⟨s', f, out, rfl, hf, hsp, hlen, hom, hI, hbw⟩ := hrel
    by_cases h0 : 0 < s'.size
    · have hne : (!s'.toList.isEmpty) = true := by rw [toList_empty, decide_eq_false (by omega)]; rfl
      cases hp : Sq.piece s'.data.toList with
      | none =>
        have Hfin : Hid (R = (out, false)) := by
          rw [← hsp]
          exact Sq.spread_none _ _ _ _ (by rw [← Lib.size_eq]; exact h0) (by rw [← Lib.size_eq]; exact hf) hp
        clear hsp hom
        go_wp2_with fail
        refine (fp_none s' _ (by unfold maxLen; omega) h0 hp).mono ?_
        rintro e w1 ⟨rfl, rfl⟩
        go_wp2_with fail
        refine (bString _ _ out _ hI (by have := hbw.size; omega)).mono ?_
        rintro e w2 ⟨rfl, _, hb1⟩
        go_wp2
        go_ret2
        rw [Hfin.out]
        exact ⟨rfl, hbw.trans hb1⟩
      | some tn =>
        obtain ⟨t, n⟩ := tn
        have hpl := Sq.piece_le _ _ _ hp
        rw [← Lib.size_eq] at hpl
        have ho1 : -9223372036854775808 ≤ most - (out.length : Int) := by rcases hom with h | h; simp [h]; omega; omega
        have ho2 : most - (out.length : Int) ≤ 9223372036854775807 := by omega
        have Hom : Hid _ := hom
        clear hom
        have Hsp : Hid _ := hsp
        clear hsp
        have Hp : Hid _ := hp
        clear hp
        go_wp2_with fail
        refine (fp_some s' t n _ (by unfold maxLen; omega) Hp.out).mono ?_
        rintro e w1 ⟨rfl, hb1⟩
        have hI1 := builder_below hI hb1
        have hb2 := hbw.trans (hb1.mono hbw.size)
        go_wp2_with fail
        refine (bLen _ _ out _ hI1).mono ?_
        rintro e w2 ⟨rfl, rfl⟩
        go_wp2_with fail
        · have hcut : max (most - (out.length : Int)) 0 < (t.length : Int) := by assumption
          have hlt : (({ data := t.toArray } : ByteArray).extract 0 (max (most - (out.length : Int)) 0).toNat).size ≤ t.length := by
            rw [Lib.size_eq, extract_list]; simp; omega
          have Hfin : Hid (R = (out ++ (({ data := t.toArray } : ByteArray).extract 0 (max (most - (out.length : Int)) 0).toNat).data.toList, false)) := by
            show _ = _
            rw [← Hsp.out, Sq.spread_some _ _ _ _ t n (by rw [← Lib.size_eq]; exact h0) (by rw [← Lib.size_eq]; exact hf) Hp.out]
            rw [if_pos (by rcases Hom.out with h | h; simp [h] at hcut ⊢; omega; omega)]
            rw [extract_list]
            simp only [List.drop_zero]
            congr 3
            rcases Hom.out with h | h
            · simp [h]
            · omega
          refine (bWrite _ _ out _ _ hI1 (by omega) (by have := hb2.size; omega)).mono ?_
          rintro e w3 ⟨rfl, hI3, hb3⟩
          go_wp2_with fail
          refine (bString _ _ _ _ hI3 (by have := hb2.size; have := hb3.size; omega)).mono ?_
          rintro e w4 ⟨rfl, _, hb4⟩
          generalize out ++ (({ data := t.toArray } : ByteArray).extract 0 (max (most - (out.length : Int)) 0).toNat).data.toList = X at Hfin hI3 ⊢
          go_wp2
          go_ret2
          rw [Hfin.out]
          exact ⟨rfl, (hb2.trans hb3).trans hb4⟩
        · have hcut : (t.length : Int) ≤ max (most - (out.length : Int)) 0 := by assumption
          refine (bWrite _ _ out _ _ hI1 (by show _ + t.toArray.size ≤ _; simp; omega) (by have := hb2.size; omega)).mono ?_
          rintro e w3 ⟨rfl, hI3, hb3⟩
          go_wp2
          go_roundw
          case rel =>
            have hs2 : (s'.extract n s'.size).size = s'.size - n := by simp [ByteArray.size_extract]
            refine ⟨s'.extract n s'.size, f - 1, out ++ t, rfl, by omega, ?_, ?_, ?_, hI3, hb2.trans hb3⟩
            · rw [← Hsp.out, Sq.spread_some _ _ _ _ t n (by rw [← Lib.size_eq]; exact h0) (by rw [← Lib.size_eq]; exact hf) Hp.out]
              rw [if_neg (by rcases Hom.out with h | h; simp [h] at hcut ⊢; omega; omega)]
              rw [extract_list, Lib.size_eq, List.take_length]
            · rw [hs2, List.length_append]; omega
            · right
              rw [List.length_append]
              rcases Hom.out with h | h
              · simp [h] at hcut ⊢; omega
              · omega
          case measure =>
            have hs2 : (s'.extract n s'.size).size = s'.size - n := by simp [ByteArray.size_extract]
            simp [strLen]
            omega
    · have hne : (!s'.toList.isEmpty) = false := by rw [toList_empty, decide_eq_true (by omega)]; rfl
      go_wp2_with fail
      refine (bString _ _ out _ hI (by have := hbw.size; omega)).mono ?_
      rintro e w1 ⟨rfl, _, hb1⟩
      have hnil : s'.data.toList = [] := by
        have := Lib.size_eq s'
        exact List.eq_nil_of_length_eq_zero (by omega)
      rw [hnil, Sq.spread_nil] at hsp
      subst hsp
      go_wp2
      go_ret2
      exact ⟨rfl, hbw.trans hb1⟩
end Go.Proofs.YtpibpdpedjinhaaDoor
