/- The walk of tributaryref.Code: what it gives is Im.code. -/
import Derived.Test.YtpibpdpedjinhaaDoorWRefCode
namespace Go.Proofs.YtpibpdpedjinhaaDoor
open Go.RowKit Go.Joins

/-- a code, or none, as two results -/
def codeV : Option (List UInt8) → Value
  | some c => .tuple #[.string ⟨c.toArray⟩, .bool true]
  | none => .tuple #[.string ⟨#[]⟩, .bool false]
theorem toList_empty (s : ByteArray) : s.toList.isEmpty = decide (s.size = 0) := by
  rw [ByteArray.toList_eq, Lib.size_eq]
  cases s.data.toList <;> simp
theorem idx_run (u : World) (s : ByteArray) (i : Int) (j : Nat) (hj : j < s.size) (e : i = (j : Int)) : (Instr.index 9 (.string s) (.int .i64 i)).run Tryd.prog u = .ok (.int .u8 (s[j].toNat : Int)) u := by
  subst e
  rw [run_index_string u _ s .i64 _ Tryd.underlying9, dif_pos (by omega)]
  simp
theorem bare_iff (s : ByteArray) (h0 : 0 < s.size) (h : s.size = 1) : Im.bare s.data.toList = decide (s[0].toNat < 128) := by
  obtain ⟨⟨l⟩⟩ := s
  match l, h with
  | [x], _ => rfl
theorem not_bare (s : ByteArray) (h : s.size ≠ 1) : Im.bare s.data.toList = false := by
  obtain ⟨⟨l⟩⟩ := s
  match l, h with
  | [], _ => rfl
  | [x], h => exact absurd rfl h
  | x :: y :: r, _ => rfl
theorem sum_take {n : Nat} {i : Im.It} (k : Nat) : ((i.kids.take k).map (Im.wt n)).sum ≤ Im.wt (n + 1) i := by
  have h : ∀ (l : List Nat) (k : Nat), (l.take k).sum ≤ l.sum := by
    intro l
    induction l with
    | nil => intro k; simp
    | cons a l ih =>
      intro k
      cases k with
      | zero => simp
      | succ k => have := ih k; simp only [List.take_succ_cons, List.sum_cons]; omega
  have := h (i.kids.map (Im.wt n)) k
  rw [← List.map_take] at this
  simp only [Im.wt]
  omega

set_option maxRecDepth 100000 in
set_option maxHeartbeats 4000000 in
theorem rcode_any : ∀ (n : Nat) (B : Nat) (i : Im.It) (c0 c1 c2 : Value) (deep : Nat) (w : World), B ≤ w.heap.size → Im.wt n i ≤ 2097152 → deep ≤ 8 → In B w n c0 c1 c2 i →
    Calls Tryd.prog 18 #[.agg #[c0, c1, c2], .int .i64 deep] w fun e w' => e = .returned (codeV (Im.code (8 - deep) i)) ∧ Below w.heap.size w w' := by
  intro n
  induction n with
  | zero => intro B i c0 c1 c2 deep w _ _ _ h; cases h
  | succ n ih =>
    intro B i c0 c1 c2 deep w hB hw hd h
    have hdp := In.dp _ _ _ _ _ h
    have hkl := Im.kids_le hdp
    obtain ⟨rfl, rfl, a, cap, rfl, h3⟩ := h
    have Hih : Hid _ := ih
    have H3 : Hid _ := h3
    have Hdp : Hid _ := hdp
    clear ih h3 hdp
    have hl : i.kids.length ≤ 2097152 := by omega
    obtain ⟨S, hS⟩ : ∃ S : ByteArray, (⟨i.bytes.toArray⟩ : ByteArray) = S := ⟨_, rfl⟩
    have hSl : S.data.toList = i.bytes := by rw [← hS]
    have hSs : S.size ≤ 2097152 := by rw [Lib.size_eq, hSl]; omega
    rw [hS]
    clear hS
    have hb0 : ∀ o : Obj, Below w.heap.size w (w.alloc o) := fun o => (Below.refl _ w).alloc (Nat.le_refl _) _
    have Hb0 : Hid _ := hb0
    clear hb0
    cases hli : i.list with
    | false =>
      have hco : Im.code (8 - deep) i = if i.kids.isEmpty then some (Im.sc i.bytes) else none := by
        cases 8 - deep <;> simp [Im.code, hli]
      by_cases hk : i.kids = []
      · have hco2 : Im.code (8 - deep) i = some (Im.sc i.bytes) := by rw [hco, hk]; rfl
        rw [hco2]
        rw [hk]
        have hsc : Im.sc i.bytes = if Im.bare S.data.toList = true then S.data.toList else Im.begun 128 S.data.toList := by rw [hSl]; rfl
        have Hsc : Hid _ := hsc
        clear hco hco2 hsc hSl H3 Hih Hdp
        by_cases h1 : S.size = 1
        · have h1' : ((S.size : Int) == 1) = true := by simp [h1]
          have h1a : 0 < S.size := by omega
          have hx := fun u => idx_run u S 0 0 h1a rfl
          have hba := bare_iff S h1a h1
          have Hba : Hid _ := hba
          clear hba
          have H1 : Hid _ := h1
          clear h1
          by_cases h128 : (S[0].toNat : Int) < 128
          · go_enter Tryd.func18, Tryd.ntmps18
            go_wp2_with fail
            go_ret2
            rw [Hsc.out, Hba.out, decide_eq_true (by omega), if_pos rfl]
            exact ⟨rfl, Hb0.out _⟩
          · have Hfin : Hid (Im.sc i.bytes = Im.begun 128 S.data.toList) := by rw [Hid, Hsc.out, Hba.out, decide_eq_false (by omega), if_neg (by simp)]
            go_enter Tryd.func18, Tryd.ntmps18
            go_wp2_with fail
            refine (begun_any 128 S _ (.inl rfl) (by omega)).mono ?_
            rintro e w1 ⟨rfl, hb1⟩
            generalize Im.begun 128 S.data.toList = E at Hfin ⊢
            go_wp2_with fail
            go_ret2
            rw [Hfin.out]
            exact ⟨rfl, (Hb0.out _).trans (hb1.mono (by simp))⟩
        · have h1' : ((S.size : Int) == 1) = false := by simp; omega
          have hnb := not_bare S h1
          have Hnb : Hid _ := hnb
          clear hnb
          have Hfin : Hid (Im.sc i.bytes = Im.begun 128 S.data.toList) := by rw [Hid, Hsc.out, Hnb.out, if_neg (by simp)]
          go_enter Tryd.func18, Tryd.ntmps18
          go_wp2_with fail
          refine (begun_any 128 S _ (.inl rfl) (by omega)).mono ?_
          rintro e w1 ⟨rfl, hb1⟩
          generalize Im.begun 128 S.data.toList = E at Hfin ⊢
          go_wp2_with fail
          go_ret2
          rw [Hfin.out]
          exact ⟨rfl, (Hb0.out _).trans (hb1.mono (by simp))⟩
      · have hco2 : Im.code (8 - deep) i = none := by rw [hco, if_neg (by simp [hk])]
        rw [hco2]
        have hk' : 0 < (i.kids.length : Int) := by have := List.length_pos_iff.2 hk; omega
        go_enter Tryd.func18, Tryd.ntmps18
        go_wp2_with fail
        go_ret2
        exact ⟨rfl, Hb0.out _⟩
    | true =>
      have hSe : S.toList.isEmpty = i.bytes.isEmpty := by rw [ByteArray.toList_eq, hSl]
      cases hbe : i.bytes.isEmpty with
      | false =>
        have hne : (!S.toList.isEmpty) = true := by rw [hSe, hbe]; rfl
        have hco : Im.code (8 - deep) i = none := by
          cases 8 - deep <;> simp [Im.code, hli, hbe]
        rw [hco]
        clear hSe hSl
        go_enter Tryd.func18, Tryd.ntmps18
        go_wp2_with fail
        go_ret2
        exact ⟨rfl, Hb0.out _⟩
      | true =>
        have hne : (!S.toList.isEmpty) = false := by rw [hSe, hbe]; rfl
        clear hSe hSl
        by_cases h8 : deep = 8
        · subst h8
          have hco : Im.code (8 - 8) i = none := by simp [Im.code, hli]
          rw [hco]
          go_enter Tryd.func18, Tryd.ntmps18
          go_wp2_with fail
          go_ret2
          exact ⟨rfl, Hb0.out _⟩
        · obtain ⟨d, hd2⟩ : ∃ d, 8 - deep = d + 1 := ⟨8 - deep - 1, by omega⟩
          have hco : Im.code (8 - deep) i = (Im.cat (Im.code d) i.kids).map (Im.begun 192) := by
            rw [hd2, Im.code_list d i hli hbe]
          generalize hR : Im.code (8 - deep) i = R at *
          have Hco : Hid _ := hco
          have Hd2 : Hid _ := hd2
          clear hco hR hd2
          have h8' : (deep : Int) < 8 := by omega
          obtain ⟨X, hX⟩ : ∃ X : World, X = w.alloc (.cells #[.bool true, .string S, .slice a i.kids.length cap] 24) := ⟨_, rfl⟩
          have hXs : X.heap.size = w.heap.size + 1 := by rw [hX]; simp
          have hX0 : X.cell? ⟨w.heap.size, 2, none⟩ = some (.slice a i.kids.length cap) := by rw [hX]; simp
          have hXb : Below w.heap.size w X := by rw [hX]; exact Hb0.out _
          go_enter Tryd.func18, Tryd.ntmps18
          go_wp2_with fail
          rw [← hX]
          have HXs : Hid _ := hXs
          have HX0 : Hid _ := hX0
          clear hX hXs hX0
          go_loopg [6, 7] i.kids.length (fun g v t wx => ∃ (k : Nat) (acc : ByteArray), k ≤ i.kids.length ∧ t = .int .i64 k ∧ v = .string acc ∧ g = i.kids.length - k ∧ Hid (Im.cat (Im.code d) (i.kids.take k) = some acc.data.toList) ∧ Below (w.heap.size + 1) X wx)
          case atStart => exact ⟨0, ⟨#[]⟩, Nat.zero_le _, rfl, rfl, rfl, rfl, Below.refl _ _⟩
          case round =>
            obtain ⟨k, acc, hk, rfl, rfl, rfl, Hacc, hb⟩ := hrel
            have hsz := hb.size
            rw [HXs.out] at hsz
            have c0 : wr.cell? ⟨w.heap.size, 2, none⟩ = some (.slice a i.kids.length cap) := (hb.cell (p := ⟨w.heap.size, 2, none⟩) (by simp)).trans HX0.out
            have hbw : Below w.heap.size w wr := hXb.trans (hb.mono (by omega))
            have hal : acc.size ≤ 12582912 := by rw [Lib.size_eq]; exact Im.cat_len_kids Hdp.out hw (fun x hx => List.mem_of_mem_take hx) (sum_take k) Hacc.out
            by_cases hlt : k < i.kids.length
            · have hlt' : (k : Int) < (i.kids.length : Int) := by omega
              have hne2 : i.kids ≠ [] := by intro e; rw [e] at hlt; simp at hlt
              obtain ⟨b, off, rfl, hbB, hj⟩ := H3.out hne2
              obtain ⟨d0, d1, d2, hd, hin⟩ := hj k hlt
              have hwk := Im.wt_kid (n := n) (List.getElem_mem hlt)
              obtain ⟨p0, p1, p2⟩ := hd.below hbw (by omega)
              have hcall := fun (_ : Unit) => Hih.out B (i.kids[k]) d0 d1 d2 (deep + 1) wr (Nat.le_trans hB hbw.size) (by omega) (by omega) (In.below (hbw.mono hB) _ _ _ _ _ hin)
              rw [show 8 - (deep + 1) = d from by have := Hd2.out; omega] at hcall
              have hsn : Im.cat (Im.code d) (i.kids.take (k + 1)) = (Im.code d i.kids[k]).map (fun c => acc.data.toList ++ c) := by
                rw [List.take_succ_eq_append_getElem hlt, Im.cat_snoc_of _ _ _ _ Hacc.out]
              have hno : Im.code d i.kids[k] = none → R = none := fun hnn => by
                rw [Hco.out, ← List.take_append_drop k i.kids, List.drop_eq_getElem_cons hlt, Im.cat_none _ _ _ _ hnn]
                rfl
              have hcl : ∀ c, Im.code d i.kids[k] = some c → c.length ≤ 6 * Im.wt n i.kids[k] := fun c hcc => Im.code_len n d i.kids[k] c (Hdp.out _ (List.getElem_mem hlt)) (Nat.le_trans (Nat.le_of_succ_le hwk) hw) hcc
              generalize hC : Im.code d i.kids[k] = C at *
              have Hsn : Hid _ := hsn
              have Hno : Hid _ := hno
              have Hcl : Hid _ := hcl
              have Hcall : Hid _ := hcall
              clear hsn hno hcl hcall hj hd hin hne2 hC
              cases C with
              | none =>
                have hRn := Hno.out rfl
                have HRn : Hid _ := hRn
                clear hRn
                go_wp2_with fail
                rw [show ((deep : Int) + 1) = ((deep + 1 : Nat) : Int) from by omega]
                refine (Hcall.out ()).mono ?_
                rintro e w3 ⟨rfl, hb3⟩
                simp only [codeV]
                go_wp2_with fail
                go_ret2
                rw [HRn.out]
                exact ⟨rfl, hbw.trans (hb3.mono hbw.size)⟩
              | some c =>
                have hc6 := Hcl.out c rfl
                go_wp2_with fail
                rw [show ((deep : Int) + 1) = ((deep + 1 : Nat) : Int) from by omega]
                refine (Hcall.out ()).mono ?_
                rintro e w3 ⟨rfl, hb3⟩
                simp only [codeV]
                have hcs : ((⟨c.toArray⟩ : ByteArray).size) = c.length := by rw [Lib.size_eq]
                obtain ⟨D, hD⟩ : ∃ D : ByteArray, (⟨c.toArray⟩ : ByteArray) = D := ⟨_, rfl⟩
                have hDl : D.data.toList = c := by rw [← hD]
                have hDs : D.size ≤ 12582912 := by rw [← hD, hcs]; omega
                rw [hD]
                have HDl : Hid _ := hDl
                clear hD hcs hDl
                go_wp2_with fail
                go_roundg (i.kids.length - (k + 1))
                case measure => omega
                case rel =>
                  refine ⟨k + 1, acc ++ D, by omega, by go_num, rfl, rfl, ?_, hb.trans (hb3.mono hsz)⟩
                  rw [Hid, Hsn.out, ba_append, HDl.out]
                  rfl
            · have hlt' : ¬ (k : Int) < (i.kids.length : Int) := by omega
              have hke : k = i.kids.length := by omega
              have hRs : R = some (Im.begun 192 acc.data.toList) := by
                have := Hacc.out
                rw [hke, List.take_length] at this
                rw [Hco.out, this]
                rfl
              have HRs : Hid _ := hRs
              clear hRs hke
              go_wp2_with fail
              refine (begun_any 192 acc _ (.inr rfl) (by omega)).mono ?_
              rintro e w1 ⟨rfl, hb1⟩
              generalize Im.begun 192 acc.data.toList = E at HRs ⊢
              go_wp2_with fail
              go_ret2
              rw [HRs.out]
              exact ⟨rfl, hbw.trans (hb1.mono hbw.size)⟩
end Go.Proofs.YtpibpdpedjinhaaDoor
