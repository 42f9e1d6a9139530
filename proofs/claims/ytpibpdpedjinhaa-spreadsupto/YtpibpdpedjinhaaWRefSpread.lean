/- The walk of tributaryref.Spread: it gives Sq.spread too, for strings of at most 2^20 bytes. -/
import Derived.Test.YtpibpdpedjinhaaWSpread
namespace Go.Proofs.Ytpibpdpedjinhaa
open Go.RowKit

theorem size_zero {s : ByteArray} (h : s.size = 0) : s = ByteArray.empty := by
  obtain ⟨⟨l⟩⟩ := s
  have : l = [] := List.eq_nil_of_length_eq_zero h
  rw [this]
  rfl
theorem ba_append (a b : ByteArray) : (a ++ b).data.toList = a.data.toList ++ b.data.toList := by simp
theorem empty_size : (⟨#[]⟩ : ByteArray).size = 0 := rfl

set_option maxRecDepth 100000 in
set_option maxHeartbeats 1000000 in
theorem rspread_any (s : ByteArray) (most : Int) (w : World) (hs : s.size ≤ 4194304) (hm1 : -9223372036854775808 ≤ most) (hm2 : most ≤ 9223372036854775807) :
    Calls Try.prog 6 #[.string s, .int .i64 most] w fun e w' => e = .returned (.tuple #[.string ⟨(Sq.spread s.size s.data.toList most []).1.toArray⟩, .bool (Sq.spread s.size s.data.toList most []).2]) ∧ w' = w := by
  generalize hR : Sq.spread s.size s.data.toList most [] = R
  have HR : Hid _ := hR
  clear hR
  go_enter Try.func6, Try.ntmps6
  go_wp2_with fail
  go_loop [0, 1, 6] (fun v m o => ∃ (s' : ByteArray) (m' : Int) (f : Nat) (out : ByteArray), v = .string s' ∧ m = .int .i64 m' ∧ o = .string out ∧ s'.size ≤ f ∧ Hid (Sq.spread f s'.data.toList most out.data.toList = R) ∧ out.size + 128 * s'.size ≤ 536870912 ∧ (out.size = 0 ∨ (out.size : Int) ≤ most) ∧ (m' = most ∨ (m' = 0 ∧ most < 0))) (fun v _ _ => strLen v)
  case atStart =>
    exact ⟨s, most, s.size, ⟨#[]⟩, rfl, rfl, rfl, Nat.le_refl _, HR.out, by rw [empty_size]; omega, .inl rfl, .inl rfl⟩
  case round =>
    obtain ⟨s', m', f, out, rfl, rfl, rfl, hf, Hsp, hlen, hom, hmm⟩ := hrel
    have hm1' : -9223372036854775808 ≤ m' := by omega
    have hm2' : m' ≤ 9223372036854775807 := by omega
    have Hom : Hid _ := hom
    have Hmm : Hid _ := hmm
    clear hom hmm
    by_cases h0 : 0 < s'.size
    · have hne : (!s'.toList.isEmpty) = true := by rw [toList_empty, decide_eq_false (by omega)]; rfl
      have hbb := s'[0].toNat_lt
      have hb2 : (s'[0].toNat : Int) < 256 := by omega
      clear hbb
      cases hp : Sq.piece s'.data.toList with
      | none =>
        have Hfin : Hid (R = (out.data.toList, false)) := by
          rw [Hid, ← Hsp.out]
          exact Sq.spread_none _ _ _ _ (by rw [← Lib.size_eq]; exact h0) (by rw [← Lib.size_eq]; exact hf) hp
        rw [piece_eq s' h0] at hp
        have hc : (s'[0].toNat : Int) = 128 ∨ (128 < (s'[0].toNat : Int) ∧ (s'.size : Int) < 2) ∨ ((s'[0].toNat : Int) < 128 ∧ (s'.size : Int) < (s'[0].toNat : Int) + 2) := by
          split at hp
          · split at hp
            · simp at hp
            · right; right; omega
          · split at hp
            · left; omega
            · split at hp
              · simp at hp
              · right; left; omega
        clear hp
        rcases hc with hc | ⟨hc, hd⟩ | ⟨hc, hd⟩
        · have hc1 : (s'[0].toNat : Int) ≤ 128 := by omega
          have hc2 : 128 ≤ (s'[0].toNat : Int) := by omega
          clear hc
          go_wp2
          go_ret2
          rw [Hfin.out]
          exact ⟨rfl, rfl⟩
        · go_wp2
          go_ret2
          rw [Hfin.out]
          exact ⟨rfl, rfl⟩
        · go_wp2
          go_ret2
          rw [Hfin.out]
          exact ⟨rfl, rfl⟩
      | some tn =>
        obtain ⟨t, n⟩ := tn
        have hpl := Sq.piece_le _ _ _ hp
        rw [← Lib.size_eq] at hpl
        have Hp : Hid _ := hp
        rw [piece_eq s' h0] at hp
        split at hp
        · split at hp
          · simp only [Option.some.injEq, Prod.mk.injEq] at hp
            obtain ⟨rfl, rfl⟩ := hp
            rename_i hc1 hc2
            have hc1' : (s'[0].toNat : Int) < 128 := by omega
            have hc2' : (s'[0].toNat : Int) + 2 ≤ s'.size := by omega
            clear hc1 hc2
            have htl : (s'.extract 1 (s'[0].toNat + 2)).data.toList.length = s'[0].toNat + 1 := by rw [extract_list, List.length_drop, List.length_take, ← Lib.size_eq]; omega
            have Htl : Hid _ := htl
            rw [htl] at hpl
            clear htl
            have hz : 0 < s'.data.toList.length ∧ s'.data.toList.length ≤ f := by rw [← Lib.size_eq]; exact ⟨h0, hf⟩
            have hst := Sq.spread_some f _ most out.data.toList _ _ hz.1 hz.2 Hp.out
            rw [Hsp.out, Htl.out, ← Lib.size_eq] at hst
            clear hz
            rcases (show m' < 0 ∨ (0 ≤ m' ∧ m' < (out.size : Int) + ((s'[0].toNat : Int) + 1)) ∨ (0 ≤ m' ∧ (out.size : Int) + ((s'[0].toNat : Int) + 1) ≤ m') from by omega) with hA | ⟨hA, hB⟩ | ⟨hA, hB⟩
            · have hmost : most < 0 := by have := Hmm.out; omega
              have hz0 : out.size = 0 := by have := Hom.out; omega
              have hoe : out = ByteArray.empty := size_zero hz0
              subst hoe
              have Hfin : Hid (R = ([], false)) := by
                rw [Hid, hst, if_pos (by simp; omega)]
                have : (max most 0).toNat = 0 := by omega
                simp [this]
              clear hst hz0
              go_wp2
              go_ret2
              rw [Hfin.out]
              exact ⟨rfl, rfl⟩
            · have Hfin : Hid (R = ((out ++ (s'.extract 1 (s'[0].toNat + 2)).extract 0 (m'.toNat - out.size)).data.toList, false)) := by
                have hmm := Hmm.out
                rw [Hid, hst, if_pos (by omega), ba_append, extract_list _ 0]
                simp only [List.drop_zero]
                congr 3
                omega
              clear hst
              have hout : (out.size : Int) ≤ m' := by have := Hmm.out; have := Hom.out; omega
              go_wp2
              go_ret2
              rw [Hfin.out]
              exact ⟨rfl, rfl⟩
            · have Hfin : Hid (R = Sq.spread (f - 1) (s'.extract (s'[0].toNat + 2) s'.size).data.toList most (out ++ s'.extract 1 (s'[0].toNat + 2)).data.toList) := by
                have hmm := Hmm.out
                rw [Hid, hst, if_neg (by omega), ba_append, extract_list s' _ s'.size]
                congr 2
                rw [Lib.size_eq s', List.take_length]
              clear hst
              go_wp2
              go_round
              case rel =>
                have e1 : (s'.extract (s'[0].toNat + 2) s'.size).size = s'.size - (s'[0].toNat + 2) := by simp [ByteArray.size_extract]
                have e2 : (out ++ s'.extract 1 (s'[0].toNat + 2)).size = out.size + (s'[0].toNat + 1) := by rw [Lib.size_eq, ba_append, List.length_append, Htl.out, ← Lib.size_eq]
                refine ⟨_, m', f - 1, _, rfl, rfl, rfl, by omega, Hfin.out.symm, by omega, .inr ?_, Hmm.out⟩
                have := Hmm.out
                omega
              case measure =>
                have e1 : (s'.extract (s'[0].toNat + 2) s'.size).size = s'.size - (s'[0].toNat + 2) := by simp [ByteArray.size_extract]
                simp [strLen]
                omega
          · simp at hp
        · split at hp
          · simp at hp
          · split at hp
            · simp only [Option.some.injEq, Prod.mk.injEq] at hp
              obtain ⟨rfl, rfl⟩ := hp
              rename_i hc1 hc2 hc3
              have hc1' : 128 < (s'[0].toNat : Int) := by omega
              have hc2' : 2 ≤ (s'.size : Int) := by omega
              clear hc1 hc2 hc3
              have hx1 : (s'.extract 1 2).size = 1 := by simp [ByteArray.size_extract]; omega
              have hx1' : (s'.extract 1 2).data.toList.length = 1 := by rw [← Lib.size_eq]; exact hx1
              have htl : (Lib.repeatL (s'.extract 1 2).data.toList (257 - s'[0].toNat)).length = 257 - s'[0].toNat := by rw [Lib.repeatL_length, hx1', Nat.mul_one]
              have Htl : Hid _ := htl
              rw [htl] at hpl
              have hz : 0 < s'.data.toList.length ∧ s'.data.toList.length ≤ f := by rw [← Lib.size_eq]; exact ⟨h0, hf⟩
              have hst := Sq.spread_some f _ most out.data.toList _ _ hz.1 hz.2 Hp.out
              rw [Hsp.out, Htl.out, ← Lib.size_eq] at hst
              have Hst : Hid _ := hst
              clear hz hst htl hx1'
              have Hx1 : Hid _ := hx1
              have hx1b : ((s'.extract 1 2).size : Int) ≤ 1 := by omega
              clear hx1
              generalize hT : s'.extract 1 2 = T at *
              have HT : Hid _ := hT
              clear hT
              have hT2 : s'.extract 1 2 = T := HT.out
              go_wp2_with fail
              go_loop [8, 10] (fun p i => ∃ (k : Nat) (P : ByteArray), k ≤ 257 - s'[0].toNat ∧ i = .int .i64 k ∧ p = .string P ∧ Hid (P.data.toList = Lib.repeatL T.data.toList k) ∧ P.size ≤ k) (fun _ i => 257 - s'[0].toNat - (intOf i).toNat)
              case atStart => exact ⟨0, ⟨#[]⟩, Nat.zero_le _, rfl, rfl, rfl, Nat.le_refl _⟩
              case round =>
                obtain ⟨k, P, hk, rfl, rfl, HP, hPk⟩ := hrel
                by_cases hlt : (k : Int) < 257 - (s'[0].toNat : Int)
                · go_wp2
                  go_round
                  case rel =>
                    refine ⟨k + 1, _, by omega, by go_num, rfl, ?_, ?_⟩
                    · rw [Hid, ba_append, HP.out, Lib.repeatL_add, Lib.repeatL_one]
                    · rw [Lib.size_eq, ba_append, List.length_append, ← Lib.size_eq, ← Lib.size_eq]; omega
                  case measure => simp [intOf]; omega
                · have hke : k = 257 - s'[0].toNat := by omega
                  have HP2 : Hid (P.data.toList = Lib.repeatL T.data.toList (257 - s'[0].toNat)) := by rw [← hke]; exact HP
                  have hPs : P.size = 257 - s'[0].toNat := by rw [Lib.size_eq, HP2.out]; exact Htl.out
                  clear HP hke
                  have hP1 : (P.size : Int) ≤ 257 - (s'[0].toNat : Int) := by omega
                  have hP2 : 257 - (s'[0].toNat : Int) ≤ (P.size : Int) := by omega
                  clear hPs
                  rcases (show m' < 0 ∨ (0 ≤ m' ∧ m' < (out.size : Int) + (P.size : Int)) ∨ (0 ≤ m' ∧ (out.size : Int) + (P.size : Int) ≤ m') from by omega) with hA | ⟨hA, hB⟩ | ⟨hA, hB⟩
                  · have hmost : most < 0 := by have := Hmm.out; omega
                    have hz0 : out.size = 0 := by have := Hom.out; omega
                    have hoe : out = ByteArray.empty := size_zero hz0
                    subst hoe
                    have Hfin : Hid (R = ([], false)) := by
                      rw [Hid, Hst.out, if_pos (by simp; omega)]
                      have : (max most 0).toNat = 0 := by omega
                      simp [this]
                    clear hz0
                    go_wp2
                    go_ret2
                    rw [Hfin.out]
                    exact ⟨rfl, rfl⟩
                  · have Hfin : Hid (R = ((out ++ P.extract 0 (m'.toNat - out.size)).data.toList, false)) := by
                      have hmm := Hmm.out
                      rw [Hid, Hst.out, if_pos (by omega), ba_append, extract_list _ 0, HP2.out]
                      simp only [List.drop_zero]
                      congr 3
                      omega
                    have hout : (out.size : Int) ≤ m' := by have := Hmm.out; have := Hom.out; omega
                    go_wp2
                    go_ret2
                    rw [Hfin.out]
                    exact ⟨rfl, rfl⟩
                  · have Hfin : Hid (R = Sq.spread (f - 1) (s'.extract 2 s'.size).data.toList most (out ++ P).data.toList) := by
                      have hmm := Hmm.out
                      rw [Hid, Hst.out, if_neg (by omega), ba_append, extract_list s' _ s'.size, HP2.out]
                      congr 2
                      rw [Lib.size_eq s', List.take_length]
                    go_wp2
                    go_round
                    case rel =>
                      have e1 : (s'.extract 2 s'.size).size = s'.size - 2 := by simp [ByteArray.size_extract]
                      have e2 : (out ++ P).size = out.size + P.size := by rw [Lib.size_eq, ba_append, List.length_append, ← Lib.size_eq, ← Lib.size_eq]
                      refine ⟨_, m', f - 1, _, rfl, rfl, rfl, by omega, Hfin.out.symm, by omega, .inr ?_, Hmm.out⟩
                      have := Hmm.out
                      omega
                    case measure =>
                      have e1 : (s'.extract 2 s'.size).size = s'.size - 2 := by simp [ByteArray.size_extract]
                      simp [strLen]
                      omega
            · simp at hp
    · have hne : (!s'.toList.isEmpty) = false := by rw [toList_empty, decide_eq_true (by omega)]; rfl
      have hnil : s'.data.toList = [] := by
        have := Lib.size_eq s'
        exact List.eq_nil_of_length_eq_zero (by omega)
      have Hfin : Hid (R = (out.data.toList, true)) := by rw [Hid, ← Hsp.out, hnil, Sq.spread_nil]
      clear hnil
      go_wp2
      go_ret2
      rw [Hfin.out]
      exact ⟨rfl, rfl⟩
end Go.Proofs.Ytpibpdpedjinhaa
