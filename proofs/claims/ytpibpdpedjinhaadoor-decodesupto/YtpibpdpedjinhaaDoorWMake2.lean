/- The walks of item.size, headOf, head.write, write and Code, and of code.Encode: what Encode gives is Im.code. -/
import Derived.Test.YtpibpdpedjinhaaDoorWMake
namespace Go.Proofs.YtpibpdpedjinhaaDoor
open Go.RowKit Go.Joins

set_option maxRecDepth 100000 in
set_option maxHeartbeats 1000000 in
theorem size_any : ∀ n : Nat, SizeSaid n := by
  intro n
  induction n with
  | zero => intro B i c0 c1 c2 deep w _ _ _ _ h; cases h
  | succ n ih =>
    intro B i c0 c1 c2 deep w hB hw hd1 hd h
    have hkl := Im.kids_le (In.dp _ _ _ _ _ h)
    have hin := h
    obtain ⟨a, cap, rfl, rfl, rfl⟩ := h.shape
    have Hin : Hid (In B w (n + 1) (.bool i.list) (.string ⟨i.bytes.toArray⟩) (.slice a i.kids.length cap) i) := hin
    clear h hin
    obtain ⟨S, hS⟩ : ∃ S : ByteArray, (⟨i.bytes.toArray⟩ : ByteArray) = S := ⟨_, rfl⟩
    have hSl : S.data.toList = i.bytes := by rw [← hS]
    have hSs : S.size ≤ 2097152 := by rw [Lib.size_eq, hSl]; omega
    rw [hS] at Hin ⊢
    clear hS
    have hb0 : ∀ o : Obj, Below w.heap.size w (w.alloc o) := fun o => (Below.refl _ w).alloc (Nat.le_refl _) _
    have Hb0 : Hid _ := hb0
    clear hb0
    have hdi : (deep : Int) ≤ 9 := by omega
    cases hli : i.list with
    | false =>
      have hco : Im.code (9 - deep) i = if i.kids.length = 0 then some (Im.sc S.data.toList) else none := by
        rw [hSl]
        cases hk : i.kids <;> cases 9 - deep <;> simp [Im.code, hli, hk]
      rw [hco]
      clear hco hSl Hin
      generalize hR : (if i.kids.length = 0 then some (Im.sc S.data.toList) else none) = R
      have HR : Hid _ := hR
      clear hR
      go_enter Tryd.func29, Tryd.ntmps29
      go_wp2_with fail
      refine (stringSize_any false S a i.kids.length cap _ hSs (by omega)).mono ?_
      rintro e w1 ⟨rfl, hb1⟩
      have hbb := (Hb0.out (.cells #[.bool false, .string S, .slice a i.kids.length cap] 24)).trans (hb1.mono (by simp))
      rw [HR.out]
      clear HR
      cases R with
      | none =>
        simp only [sizeV]
        go_wp2_with fail
        go_ret2
        exact ⟨rfl, hbb⟩
      | some c =>
        simp only [sizeV]
        go_wp2_with fail
        go_ret2
        exact ⟨rfl, hbb⟩
    | true =>
      have hSe : S.toList.isEmpty = i.bytes.isEmpty := by rw [ByteArray.toList_eq, hSl]
      cases hbe : i.bytes.isEmpty with
      | false =>
        have hne : (!S.toList.isEmpty) = true := by rw [hSe, hbe]; rfl
        have hco : Im.code (9 - deep) i = none := by
          cases 9 - deep <;> simp [Im.code, hli, hbe]
        rw [hco]
        clear hSe hSl
        go_enter Tryd.func29, Tryd.ntmps29
        go_wp2_with fail
        go_ret2
        exact ⟨rfl, Hb0.out _⟩
      | true =>
        have hne : (!S.toList.isEmpty) = false := by rw [hSe, hbe]; rfl
        clear hSe hSl
        by_cases h9 : deep = 9
        · subst h9
          have hco : Im.code (9 - 9) i = none := by simp [Im.code, hli]
          rw [hco]
          go_enter Tryd.func29, Tryd.ntmps29
          go_wp2_with fail
          go_ret2
          exact ⟨rfl, Hb0.out _⟩
        · obtain ⟨d, hd2⟩ : ∃ d, 9 - deep = d + 1 := ⟨9 - deep - 1, by omega⟩
          have hco : Im.code (9 - deep) i = (Im.cat (Im.code d) i.kids).map (Im.begun 192) := by
            rw [hd2, Im.code_list d i hli hbe]
          rw [hco]
          have hcl : ∀ s, Im.cat (Im.code d) i.kids = some s → s.length ≤ 12582912 := fun s hs => Im.cat_len_kids (In.dp _ _ _ _ _ Hin.out) hw (fun _ hx => hx) (by simp only [Im.wt]; omega) hs
          have hcall := fun (W : World) (hW : Below w.heap.size w W) => together_any n ih B i (.bool i.list) (.string S) a i.kids.length cap (deep + 1) W (Nat.le_trans hB hW.size) hw (by omega) (by omega) (In.below (hW.mono hB) _ _ _ _ _ Hin.out)
          rw [show 9 - (deep + 1) = d from by omega] at hcall
          have Hcl : Hid _ := hcl
          have Hcall : Hid _ := hcall
          clear hco hd2 hcl hcall
          have h9' : (deep : Int) ≤ 8 := by omega
          go_enter Tryd.func29, Tryd.ntmps29
          go_wp2_with fail
          rw [show ((deep : Int) + 1) = ((deep + 1 : Nat) : Int) from by omega]
          refine (Hcall.out _ (Hb0.out _)).mono ?_
          rintro e w1 ⟨rfl, hb1⟩
          have hbb := (Hb0.out (.cells #[.bool true, .string S, .slice a i.kids.length cap] 24)).trans (hb1.mono (by simp))
          cases hR : Im.cat (Im.code d) i.kids with
          | none =>
            have HR : Hid _ := hR
            clear hR
            simp only [sizeV]
            go_wp2_with fail
            go_ret2
            rw [HR.out]
            exact ⟨rfl, hbb⟩
          | some s =>
            have hsl := Hcl.out s hR
            have HR : Hid _ := hR
            clear hR
            simp only [sizeV]
            go_wp2_with fail
            refine (headSize_any s.length _ (by omega)).mono ?_
            rintro e w2 ⟨rfl, rfl⟩
            have hwl := Im.wid_le s.length
            have hbl : (Im.begun 192 s).length = (if s.length ≤ 55 then 1 else 1 + Im.wid s.length) + s.length := by
              unfold Im.begun
              rw [List.length_append, Im.head_len _ _ (by omega)]
            have hk : (if s.length ≤ 55 then 1 else 1 + Im.wid s.length) ≤ 5 := by split <;> omega
            generalize (if s.length ≤ 55 then 1 else 1 + Im.wid s.length) = k at *
            have Hbl : Hid _ := hbl
            clear hbl
            go_wp2_with fail
            go_ret2
            rw [HR.out]
            simp only [Option.map, sizeV]
            rw [Hbl.out]
            exact ⟨by congr 3, hbb⟩

theorem shift_byte (n j : Nat) : ((n : Int) / 2 ^ (8 * j) % 256) = ((UInt8.ofNat (n / 256 ^ j % 256)).toNat : Int) := by
  have e : (256 : Nat) ^ j = 2 ^ (8 * j) := by rw [Nat.pow_mul]
  rw [e]
  simp

/-- the table of heads as it lies -/
def Heads (w : World) : Prop := K3 w 0 0 (.bool false) (.int .u8 128) (.int .u8 183) ∧ K3 w 0 3 (.bool true) (.int .u8 192) (.int .u8 247)
theorem Heads.below {B : Nat} {w w' : World} (h : Heads w) (hb : Below B w w') (hB : 0 < B) : Heads w' := ⟨h.1.below hb hB, h.2.below hb hB⟩

set_option maxRecDepth 100000 in
set_option maxHeartbeats 1000000 in
theorem headOf_any (t : Bool) (w : World) (h : Heads w) (h0 : 0 < w.heap.size) :
    Calls Tryd.prog 42 #[.bool t] w fun e w' => e = .returned (.agg #[.bool t, .int .u8 (if t = true then 192 else 128), .int .u8 (if t = true then 247 else 183)]) ∧ Below w.heap.size w w' := by
  obtain ⟨⟨a0, a1, a2⟩, b0, b1, b2⟩ := h
  cases t with
  | true =>
    go_enter Tryd.func42, Tryd.ntmps42
    go_wp2_with fail
    exact bodyPost_ret (v := .agg #[.bool true, .int .u8 192, .int .u8 247]) (by simp [results, Tryd.results42, go_sem]) rfl ⟨rfl, (Below.refl _ w).alloc (Nat.le_refl _) _⟩
  | false =>
    go_enter Tryd.func42, Tryd.ntmps42
    go_wp2_with fail
    exact bodyPost_ret (v := .agg #[.bool false, .int .u8 128, .int .u8 183]) (by simp [results, Tryd.results42, go_sem]) rfl ⟨rfl, (Below.refl _ w).alloc (Nat.le_refl _) _⟩

set_option maxRecDepth 100000 in
set_option maxHeartbeats 1000000 in
theorem headWrite_any (B b : Nat) (l : List UInt8) (t : Bool) (near n : Nat) (w : World) (h : IsB B b l w) (hl : l.length ≤ 16777216) (hB : B ≤ w.heap.size) (hn : n ≤ 16777216) (hnear : near = 128 ∨ near = 192) :
    Calls Tryd.prog 43 #[.agg #[.bool t, .int .u8 near, .int .u8 ((near + 55 : Nat) : Int)], .pointer (some ⟨b, 0, none⟩), .int .u64 n] w fun e w' => e = .returned (.tuple #[]) ∧ IsB B b (l ++ Im.head near n) w' ∧ Below B w w' ∧ Lib.OthersKept 5 (some b) w w' := by
  have hn1 : near ≤ 192 := by omega
  clear hnear
  have hwl := Im.wid_le n
  by_cases h55 : n ≤ 55
  · have h55' : (n : Int) ≤ 55 := by omega
    have hH : Im.head near n = [UInt8.ofNat (near + n)] := by unfold Im.head; rw [if_pos h55]
    have HH : Hid _ := hH
    clear hH
    go_enter Tryd.func43, Tryd.ntmps43
    go_wp2_with fail
    rw [show ((near : Int) + (n : Int)) = ((UInt8.ofNat (near + n)).toNat : Int) from by simp; omega]
    refine (bByte B b l _ _ (h.alloc _) (by omega) (by simp; omega)).mono ?_
    rintro e w1 ⟨rfl, hI1, hb1, hk1⟩
    go_wp2
    refine bodyPost_ret (v := .tuple #[]) (by simp [results, Tryd.results43, go_sem]) rfl ⟨rfl, ?_, ((Below.refl B w).alloc hB _).trans hb1, ((Lib.OthersKept.refl _ _ w).alloc _).trans hk1⟩
    rw [HH.out]
    exact hI1
  · have h55' : ¬ (n : Int) ≤ 55 := by omega
    have hH : Im.head near n = UInt8.ofNat (near + 55 + Im.wid n) :: Im.shifts n (Im.wid n) := by
      unfold Im.head
      rw [if_neg h55, Im.shifts_num _ n (by omega) rfl, Im.num_fuel 4 n (by omega) hwl.1]
    have HH : Hid _ := hH
    clear hH
    go_enter Tryd.func43, Tryd.ntmps43
    go_wp2_with fail
    refine (width_any n _ (by omega)).mono ?_
    rintro e w1 ⟨rfl, rfl⟩
    generalize Im.wid n = K at *
    go_wp2_with fail
    rw [show ((near : Int) + 55 + (K : Int)) = ((UInt8.ofNat (near + 55 + K)).toNat : Int) from by simp; omega]
    refine (bByte B b l _ _ (h.alloc _) (by omega) (by simp; omega)).mono ?_
    rintro e w2 ⟨rfl, hI2, hb2, hk2⟩
    have hb2' : Below B w w2 := ((Below.refl B w).alloc hB _).trans hb2
    have hk2' : Lib.OthersKept 5 (some b) w w2 := ((Lib.OthersKept.refl _ _ w).alloc _).trans hk2
    clear hb2 h hk2
    go_wp2_with fail
    go_loopg [6] K (fun g t wx => ∃ (k : Nat) (acc : List UInt8), t = .int .i64 k ∧ g = k ∧ k ≤ K ∧ acc.length + k ≤ l.length + 5 ∧ Hid (acc ++ Im.shifts n k = l ++ Im.head near n) ∧ IsB B b acc wx ∧ Below B w wx ∧ Lib.OthersKept 5 (some b) w wx)
    case atStart =>
      refine ⟨K, l ++ [UInt8.ofNat (near + 55 + K)], rfl, rfl, Nat.le_refl _, by simp; omega, ?_, hI2, hb2', hk2'⟩
      rw [Hid, HH.out]
      simp
    case round =>
      obtain ⟨k, acc, rfl, rfl, hk, hal, Hacc, hI, hb, hkk⟩ := hrel
      clear hI2 hb2' hk2'
      have Hkk : Hid _ := hkk
      clear hkk
      by_cases h0 : 0 < gk
      · obtain ⟨j, rfl⟩ : ∃ j, gk = j + 1 := ⟨gk - 1, by omega⟩
        have h0' : 0 < ((j + 1 : Nat) : Int) := by omega
        go_wp2_with fail
        rw [shift_byte n j]
        refine (bByte B b acc _ _ hI (by omega) (by have := hb.size; omega)).mono ?_
        rintro e w3 ⟨rfl, hI3, hb3, hk3⟩
        have Hk3 : Hid _ := hk3
        clear hk3
        go_wp2_with fail
        go_roundg j
        case measure => omega
        case rel =>
          refine ⟨j, acc ++ [UInt8.ofNat (n / 256 ^ j % 256)], by go_num, rfl, by omega, by simp; omega, ?_, hI3, hb.trans hb3, Lib.OthersKept.trans Hkk.out Hk3.out⟩
          have := Hacc.out
          rw [Im.shifts] at this
          rw [Hid, ← this]
          simp
      · obtain rfl : gk = 0 := by omega
        go_wp2
        go_end0
        have := Hacc.out
        rw [Im.shifts, List.append_nil] at this
        rw [← this]
        exact ⟨rfl, hI, hb, Hkk.out⟩
theorem headWrite_str (B b : Nat) (l : List UInt8) (t : Bool) (n : Nat) (w : World) (h : IsB B b l w) (hl : l.length ≤ 16777216) (hB : B ≤ w.heap.size) (hn : n ≤ 16777216) :
    Calls Tryd.prog 43 #[.agg #[.bool t, .int .u8 128, .int .u8 183], .pointer (some ⟨b, 0, none⟩), .int .u64 n] w fun e w' => e = .returned (.tuple #[]) ∧ IsB B b (l ++ Im.head 128 n) w' ∧ Below B w w' ∧ Lib.OthersKept 5 (some b) w w' :=
  headWrite_any B b l t 128 n w h hl hB hn (.inl rfl)
theorem headWrite_list (B b : Nat) (l : List UInt8) (t : Bool) (n : Nat) (w : World) (h : IsB B b l w) (hl : l.length ≤ 16777216) (hB : B ≤ w.heap.size) (hn : n ≤ 16777216) :
    Calls Tryd.prog 43 #[.agg #[.bool t, .int .u8 192, .int .u8 247], .pointer (some ⟨b, 0, none⟩), .int .u64 n] w fun e w' => e = .returned (.tuple #[]) ∧ IsB B b (l ++ Im.head 192 n) w' ∧ Below B w w' ∧ Lib.OthersKept 5 (some b) w w' :=
  headWrite_any B b l t 192 n w h hl hB hn (.inr rfl)
theorem headOf_str (w : World) (h : Heads w) (h0 : 0 < w.heap.size) :
    Calls Tryd.prog 42 #[.bool false] w fun e w' => e = .returned (.agg #[.bool false, .int .u8 128, .int .u8 183]) ∧ Below w.heap.size w w' := headOf_any false w h h0
theorem headOf_list (w : World) (h : Heads w) (h0 : 0 < w.heap.size) :
    Calls Tryd.prog 42 #[.bool true] w fun e w' => e = .returned (.agg #[.bool true, .int .u8 192, .int .u8 247]) ∧ Below w.heap.size w w' := headOf_any true w h h0
end Go.Proofs.YtpibpdpedjinhaaDoor
