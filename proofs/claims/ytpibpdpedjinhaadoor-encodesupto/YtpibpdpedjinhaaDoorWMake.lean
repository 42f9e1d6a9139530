/- The walks of item.width, headSize, isBare, stringSize, sizeTogether and size: what size tells is the length of Im.code. -/
import Derived.Test.YtpibpdpedjinhaaDoorWRefCode2
import Derived.Test.YtpibpdpedjinhaaDoorShelf
import Derived.Shelf.Strconv.Itoa0
namespace Go.Proofs.YtpibpdpedjinhaaDoor
open Go.RowKit Go.Joins Go.Shelf

def ren2 : Go.Shelf.Ren := ⟨fun | 129 => 59 | n => n, fun | 3 => 3 | 4 => 4 | 5 => 5 | 9 => 9 | 46 => 91 | 53 => 84 | n => n, fun | n => n⟩
theorem lays129 : Go.Proofs.Lays.n129 Tryd.prog ren2 := {
  mixed := by kernel_rfl
  f129 := Tryd.func59.trans (congrArg some (by kernel_rfl))
  t3 := Tryd.underlying3
  a3 := Tryd.isAgg3
  z3 := Tryd.sizeOf3
  v3 := Tryd.zeroValue3
  t4 := Tryd.underlying4
  a4 := Tryd.isAgg4
  z4 := Tryd.sizeOf4
  v4 := Tryd.zeroValue4
  t5 := Tryd.underlying5
  a5 := Tryd.isAgg5
  z5 := Tryd.sizeOf5
  v5 := Tryd.zeroValue5
  t9 := Tryd.underlying9
  a9 := Tryd.isAgg9
  z9 := Tryd.sizeOf9
  v9 := Tryd.zeroValue9
  t46 := Tryd.underlying91
  a46 := Tryd.isAgg91
  z46 := Tryd.sizeOf91
  v46 := Tryd.zeroValue91
  t53 := Tryd.underlying84
  a53 := Tryd.isAgg84
  z53 := Tryd.sizeOf84
  v53 := Tryd.zeroValue84 }
theorem len64 (n : Nat) (w : World) (h : n < 4294967296) : Calls Tryd.prog 59 #[.int .u64 n] w fun e w' => e = .returned (.int .i64 (Lib.bitLen n)) ∧ w' = w :=
  Any.bits_Len64 (ρ := ren2) lays129 (n : Int) w (by omega) (by omega)

set_option maxRecDepth 100000 in
set_option maxHeartbeats 400000 in
theorem width_any (n : Nat) (w : World) (h : n < 4294967296) : Calls Tryd.prog 52 #[.int .u64 n] w fun e w' => e = .returned (.int .i64 (Im.wid n)) ∧ w' = w := by
  have hb := Im.wid_bits n h
  have hl : Lib.bitLen n ≤ 32 := Lib.bitLen_le n 32 (by omega) (by omega)
  go_enter Tryd.func52, Tryd.ntmps52
  go_wp2_with fail
  refine (len64 n _ h).mono ?_
  rintro e w1 ⟨rfl, rfl⟩
  generalize Lib.bitLen n = L at *
  have HL : Hid _ := hb
  clear hb
  go_wp2_with fail
  go_ret
  rw [← HL.out]
  exact ⟨by congr 2, rfl⟩

set_option maxRecDepth 100000 in
set_option maxHeartbeats 400000 in
theorem headSize_any (n : Nat) (w : World) (h : n < 4294967296) : Calls Tryd.prog 41 #[.int .u64 n] w fun e w' => e = .returned (.int .u64 ((if n ≤ 55 then 1 else 1 + Im.wid n : Nat) : Int)) ∧ w' = w := by
  have hw := Im.wid_le n
  by_cases h55 : n ≤ 55
  · have h55' : (n : Int) ≤ 55 := by omega
    rw [if_pos h55]
    go_enter Tryd.func41, Tryd.ntmps41
    go_wp2_with fail
    go_ret
    exact ⟨rfl, rfl⟩
  · have h55' : ¬ (n : Int) ≤ 55 := by omega
    rw [if_neg h55]
    go_enter Tryd.func41, Tryd.ntmps41
    go_wp2_with fail
    refine (width_any n _ h).mono ?_
    rintro e w1 ⟨rfl, rfl⟩
    generalize hk : Im.wid n = k at *
    have Hk : Hid _ := hk
    clear hk
    go_wp2_with fail
    go_ret
    rw [Hk.out]
    exact ⟨by congr 2, rfl⟩

set_option maxRecDepth 100000 in
set_option maxHeartbeats 400000 in
theorem isBare_any (s : ByteArray) (w : World) (_hs : s.size ≤ 2097152) : Calls Tryd.prog 44 #[.string s] w fun e w' => e = .returned (.bool (Im.bare s.data.toList)) ∧ w' = w := by
  by_cases h1 : s.size = 1
  · have h1' : ((s.size : Int) == 1) = true := by simp [h1]
    have h1a : 0 < s.size := by omega
    have hx := fun u => idx_run u s 0 0 h1a rfl
    have hba := bare_iff s h1a h1
    have Hba : Hid _ := hba
    clear hba h1
    go_enter Tryd.func44, Tryd.ntmps44
    go_wp2_with fail
    go_ret
    rw [Hba.out]
    exact ⟨by congr 2; simp; omega, rfl⟩
  · have h1' : ((s.size : Int) == 1) = false := by simp; omega
    have hnb := not_bare s h1
    have Hnb : Hid _ := hnb
    clear hnb
    go_enter Tryd.func44, Tryd.ntmps44
    go_wp2_with fail
    go_ret
    rw [Hnb.out]
    exact ⟨rfl, rfl⟩

/-- a code's length, or none, as two results -/
def sizeV : Option (List UInt8) → Value
  | some c => .tuple #[.int .u64 (c.length : Int), .bool true]
  | none => .tuple #[.int .u64 0, .bool false]
theorem sc_size (s : ByteArray) (hs : s.size ≤ 2097152) : (Im.sc s.data.toList).length = if Im.bare s.data.toList = true then 1 else (if s.size ≤ 55 then 1 else 1 + Im.wid s.size) + s.size := by
  unfold Im.sc
  split
  · rename_i h
    by_cases h1 : s.size = 1
    · rw [← Lib.size_eq]; exact h1
    · rw [not_bare s h1] at h; simp at h
  · unfold Im.begun
    rw [List.length_append, ← Lib.size_eq, Im.head_len _ _ (by omega)]

set_option maxRecDepth 100000 in
set_option maxHeartbeats 400000 in
theorem stringSize_any (b0 : Bool) (S : ByteArray) (a : Option Addr) (l cap : Nat) (w : World) (hs : S.size ≤ 2097152) (hl : l ≤ 2097152) :
    Calls Tryd.prog 39 #[.agg #[.bool b0, .string S, .slice a l cap]] w fun e w' => e = .returned (sizeV (if l = 0 then some (Im.sc S.data.toList) else none)) ∧ Below w.heap.size w w' := by
  have hb0 : ∀ o : Obj, Below w.heap.size w (w.alloc o) := fun o => (Below.refl _ w).alloc (Nat.le_refl _) _
  have Hb0 : Hid _ := hb0
  clear hb0
  have hwl := Im.wid_le S.size
  by_cases h0 : l = 0
  · subst h0
    rw [if_pos rfl]
    have hsz := sc_size S hs
    cases hb : Im.bare S.data.toList with
    | true =>
      rw [hb, if_pos rfl] at hsz
      have Hsz : Hid _ := hsz
      clear hsz
      go_enter Tryd.func39, Tryd.ntmps39
      go_wp2_with fail
      refine (isBare_any S _ hs).mono ?_
      rintro e w1 ⟨rfl, rfl⟩
      rw [hb]
      go_wp2_with fail
      go_ret2
      simp only [sizeV]
      rw [Hsz.out]
      exact ⟨rfl, Hb0.out _⟩
    | false =>
      rw [hb, if_neg (by simp)] at hsz
      have Hsz : Hid _ := hsz
      clear hsz
      go_enter Tryd.func39, Tryd.ntmps39
      go_wp2_with fail
      refine (isBare_any S _ hs).mono ?_
      rintro e w1 ⟨rfl, rfl⟩
      rw [hb]
      go_wp2_with fail
      refine (headSize_any S.size _ (by omega)).mono ?_
      rintro e w1 ⟨rfl, rfl⟩
      have hk : (if S.size ≤ 55 then 1 else 1 + Im.wid S.size) ≤ 5 := by split <;> omega
      generalize (if S.size ≤ 55 then 1 else 1 + Im.wid S.size) = k at *
      go_wp2_with fail
      go_ret2
      simp only [sizeV]
      rw [Hsz.out]
      exact ⟨by congr 3, Hb0.out _⟩
  · rw [if_neg h0]
    have h0' : 0 < (l : Int) := by omega
    go_enter Tryd.func39, Tryd.ntmps39
    go_wp2_with fail
    go_ret2
    exact ⟨rfl, Hb0.out _⟩

/-- what size tells of items down to a depth -/
def SizeSaid (n : Nat) : Prop := ∀ (B : Nat) (i : Im.It) (c0 c1 c2 : Value) (deep : Nat) (w : World), B ≤ w.heap.size → Im.wt n i ≤ 2097152 → 1 ≤ deep → deep ≤ 9 → In B w n c0 c1 c2 i →
    Calls Tryd.prog 29 #[.agg #[c0, c1, c2], .int .i64 deep] w fun e w' => e = .returned (sizeV (Im.code (9 - deep) i)) ∧ Below w.heap.size w w'

set_option maxRecDepth 100000 in
set_option maxHeartbeats 1000000 in
theorem together_any (n : Nat) (hn : SizeSaid n) (B : Nat) (i : Im.It) (c0 c1 : Value) (a : Option Addr) (l cap : Nat) (deep : Nat) (w : World) (hB : B ≤ w.heap.size) (hw : Im.wt (n + 1) i ≤ 2097152) (hd1 : 1 ≤ deep) (hd : deep ≤ 9) (h : In B w (n + 1) c0 c1 (.slice a l cap) i) :
    Calls Tryd.prog 40 #[.slice a l cap, .int .i64 deep] w fun e w' => e = .returned (sizeV (Im.cat (Im.code (9 - deep)) i.kids)) ∧ Below w.heap.size w w' := by
  have hdp := In.dp _ _ _ _ _ h
  have hkl := Im.kids_le hdp
  obtain ⟨rfl, rfl, a', cap', hsl, h3⟩ := h
  simp only [Value.slice.injEq] at hsl
  obtain ⟨rfl, rfl, rfl⟩ := hsl
  have H3 : Hid _ := h3
  have Hdp : Hid _ := hdp
  clear h3 hdp
  have hl : i.kids.length ≤ 2097152 := by omega
  generalize hR : Im.cat (Im.code (9 - deep)) i.kids = R
  have HR : Hid _ := hR
  clear hR
  generalize hdd : 9 - deep = d at HR
  have Hdd : Hid _ := hdd
  clear hdd
  have hdi : (deep : Int) ≤ 9 := by omega
  go_enter Tryd.func40, Tryd.ntmps40
  go_wp2_with fail
  go_loopg [6, 13] i.kids.length (fun g v t wx => ∃ (k : Nat) (acc : List UInt8), k ≤ i.kids.length ∧ t = .int .i64 k ∧ v = .int .u64 (acc.length : Int) ∧ g = i.kids.length - k ∧ Hid (Im.cat (Im.code d) (i.kids.take k) = some acc) ∧ Below w.heap.size w wx)
  case atStart => exact ⟨0, [], Nat.zero_le _, rfl, rfl, rfl, rfl, Below.refl _ _⟩
  case round =>
    obtain ⟨k, acc, hk, rfl, rfl, rfl, Hacc, hb⟩ := hrel
    have hal : acc.length ≤ 12582912 := Im.cat_len_kids Hdp.out hw (fun x hx => List.mem_of_mem_take hx) (sum_take k) Hacc.out
    by_cases hlt : k < i.kids.length
    · have hlt' : (k : Int) < (i.kids.length : Int) := by omega
      have hne2 : i.kids ≠ [] := by intro e; rw [e] at hlt; simp at hlt
      obtain ⟨b, off, rfl, hbB, hj⟩ := H3.out hne2
      obtain ⟨d0, d1, d2, hd, hin⟩ := hj k hlt
      obtain ⟨ka, kcap, rfl, rfl, rfl⟩ := hin.shape
      have hwk := Im.wt_kid (n := n) (List.getElem_mem hlt)
      obtain ⟨p0, p1, p2⟩ := hd.below hb (by omega)
      have hcall := fun (W : World) (hW : Below w.heap.size w W) => hn B (i.kids[k]) _ _ _ deep W (Nat.le_trans hB hW.size) (by omega) hd1 (by omega) (In.below (hW.mono hB) _ _ _ _ _ hin)
      rw [show 9 - deep = d from Hdd.out] at hcall
      have hsn : Im.cat (Im.code d) (i.kids.take (k + 1)) = (Im.code d i.kids[k]).map (fun c => acc ++ c) := by
        rw [List.take_succ_eq_append_getElem hlt, Im.cat_snoc_of _ _ _ _ Hacc.out]
      have hno : Im.code d i.kids[k] = none → R = none := fun hnn => by
        rw [← HR.out, ← List.take_append_drop k i.kids, List.drop_eq_getElem_cons hlt, Im.cat_none _ _ _ _ hnn]
      have hcl : ∀ c, Im.code d i.kids[k] = some c → c.length ≤ 6 * Im.wt n i.kids[k] := fun c hcc => Im.code_len n d i.kids[k] c (Hdp.out _ (List.getElem_mem hlt)) (Nat.le_trans (Nat.le_of_succ_le hwk) hw) hcc
      generalize hC : Im.code d i.kids[k] = C at *
      have Hsn : Hid _ := hsn
      have Hno : Hid _ := hno
      have Hcl : Hid _ := hcl
      have Hcall : Hid _ := hcall
      clear hsn hno hcl hcall hj hd hin hne2 hC
      cases C with
      | none =>
        have hRn := Hno.out rfl
        have HRn : Hid _ := hRn
        clear hRn
        go_wp2_with fail
        refine (Hcall.out _ ?_).mono ?_
        · exact hb.alloc hb.size _
        rintro e w3 ⟨rfl, hb3⟩
        simp only [sizeV]
        go_wp2_with fail
        go_ret2
        rw [HRn.out]
        exact ⟨rfl, (hb.alloc hb.size _).trans (hb3.mono (by have := hb.size; simp; omega))⟩
      | some c =>
        have hc6 := Hcl.out c rfl
        go_wp2_with fail
        refine (Hcall.out _ ?_).mono ?_
        · exact hb.alloc hb.size _
        rintro e w3 ⟨rfl, hb3⟩
        simp only [sizeV]
        have hc7 : (c.length : Int) ≤ 12582912 := by omega
        go_wp2_with fail
        go_roundg (i.kids.length - (k + 1))
        case measure => omega
        case rel =>
          refine ⟨k + 1, acc ++ c, by omega, by go_num, by rw [List.length_append]; go_num, rfl, ?_, (hb.alloc hb.size _).trans (hb3.mono (by have := hb.size; simp; omega))⟩
          rw [Hid, Hsn.out]
          rfl
    · have hlt' : ¬ (k : Int) < (i.kids.length : Int) := by omega
      have hke : k = i.kids.length := by omega
      have hRs : R = some acc := by
        have := Hacc.out
        rw [hke, List.take_length] at this
        rw [← HR.out, this]
      have HRs : Hid _ := hRs
      clear hRs hke
      go_wp2_with fail
      go_ret2
      rw [HRs.out]
      exact ⟨rfl, hb⟩
end Go.Proofs.YtpibpdpedjinhaaDoor
