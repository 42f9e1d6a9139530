/- The walk of item.write: what it writes is Im.code. -/
import Derived.Test.YtpibpdpedjinhaaDoorWMake2
namespace Go.Proofs.YtpibpdpedjinhaaDoor
open Go.RowKit Go.Joins

theorem wrap_small (n : Nat) (h : n ≤ 2097152) : IntKind.u64.wrap (n : Int) = (n : Int) := by
  rw [IntKind.wrap_u64]
  omega

/-- codes one behind the other, at one of the items -/
theorem cat_mid (f : Im.It → Option (List UInt8)) : ∀ (a : List Im.It) (k : Im.It) (r : List Im.It) (s acc : List UInt8), Im.cat f (a ++ k :: r) = some s → Im.cat f a = some acc → ∃ c t, f k = some c ∧ s = acc ++ c ++ t
  | [], k, r, s, acc, h, ha => by
    simp only [Im.cat, Option.some.injEq] at ha
    subst ha
    rw [List.nil_append, Im.cat] at h
    cases hf : f k with
    | none => rw [hf] at h; simp at h
    | some c =>
      rw [hf] at h
      cases hc : Im.cat f r with
      | none => rw [hc] at h; simp at h
      | some t => rw [hc] at h; simp at h; exact ⟨c, t, rfl, by rw [← h]; simp⟩
  | x :: a, k, r, s, acc, h, ha => by
    rw [List.cons_append, Im.cat] at h
    rw [Im.cat] at ha
    cases hf : f x with
    | none => rw [hf] at h; simp at h
    | some c =>
      rw [hf] at h ha
      cases hc : Im.cat f (a ++ k :: r) with
      | none => rw [hc] at h; simp at h
      | some t =>
        rw [hc] at h
        cases hd : Im.cat f a with
        | none => rw [hd] at ha; simp at ha
        | some u =>
          rw [hd] at ha
          simp only [Option.some.injEq] at h ha
          obtain ⟨c', t', h1, h2⟩ := cat_mid f a k r t u hc hd
          exact ⟨c', t', h1, by rw [← h, ← ha, h2]; simp⟩

/-- what write does with items down to a depth -/
def WriteSaid (n : Nat) : Prop := ∀ (B b D d : Nat) (l c : List UInt8) (i : Im.It) (c0 c1 c2 : Value) (w : World), IsB B b l w → B ≤ w.heap.size → D ≤ B → 0 < B → Heads w → Im.wt n i ≤ 2097152 → d ≤ 8 → Im.code d i = some c → l.length + c.length ≤ 12582912 → In D w n c0 c1 c2 i →
    Calls Tryd.prog 30 #[.pointer (some ⟨b, 0, none⟩), .agg #[c0, c1, c2]] w fun e w' => e = .returned (.tuple #[]) ∧ IsB B b (l ++ c) w' ∧ Below B w w'

set_option maxRecDepth 100000 in
set_option maxHeartbeats 1000000 in
theorem write_item : ∀ n : Nat, WriteSaid n := by
  intro n
  induction n with
  | zero => intro B b D d l c i c0 c1 c2 w _ _ _ _ _ _ _ _ _ h; cases h
  | succ n ih =>
    intro B b D d l c i c0 c1 c2 w hI hB hD hB0 hH hw hd hc hlc h
    have hdp := In.dp _ _ _ _ _ h
    have hkl := Im.kids_le hdp
    have hin := h
    obtain ⟨a, cap, rfl, rfl, rfl⟩ := h.shape
    have Hin : Hid (In D w (n + 1) (.bool i.list) (.string ⟨i.bytes.toArray⟩) (.slice a i.kids.length cap) i) := hin
    clear h hin
    have Hdp : Hid (Im.dp (n + 1) i) := hdp
    clear hdp
    obtain ⟨S, hS⟩ : ∃ S : ByteArray, (⟨i.bytes.toArray⟩ : ByteArray) = S := ⟨_, rfl⟩
    have hSl : S.data.toList = i.bytes := by rw [← hS]
    have hSs : S.size ≤ 2097152 := by rw [Lib.size_eq, hSl]; omega
    rw [hS] at Hin ⊢
    clear hS
    have hb0 : ∀ o : Obj, Below B w (w.alloc o) := fun o => (Below.refl _ w).alloc hB _
    have Hb0 : Hid _ := hb0
    clear hb0
    cases hli : i.list with
    | false =>
      have hco : c = Im.sc S.data.toList := by
        rw [hSl]
        cases d <;> simp only [Im.code, hli, Bool.false_eq_true, if_false] at hc <;> split at hc <;> simp at hc <;> exact hc.symm
      cases hba : Im.bare S.data.toList with
      | true =>
        have hcS : c = S.data.toList := by rw [hco]; unfold Im.sc; rw [hba]; rfl
        subst hcS
        clear hco hSl Hin
        go_enter Tryd.func30, Tryd.ntmps30
        go_wp2_with fail
        refine (isBare_any S _ hSs).mono ?_
        rintro e w1 ⟨rfl, rfl⟩
        rw [hba]
        go_wp2_with fail
        refine (bWrite B b l S _ (hI.alloc _) (by rw [Lib.size_eq]; omega) (by simp; omega)).mono ?_
        rintro e w2 ⟨rfl, hI2, hb2⟩
        go_wp2
        go_end0
        exact ⟨rfl, hI2, (Hb0.out _).trans hb2⟩
      | false =>
        have hcS : c = Im.head 128 S.size ++ S.data.toList := by rw [hco]; unfold Im.sc Im.begun; rw [hba, ← Lib.size_eq]; rfl
        have hhl := Im.head_le 128 S.size (by omega)
        clear hco hSl Hin
        go_enter Tryd.func30, Tryd.ntmps30
        go_wp2_with fail
        refine (isBare_any S _ hSs).mono ?_
        rintro e w1 ⟨rfl, rfl⟩
        rw [hba]
        go_wp2_with fail
        have hbox0 : (w.alloc (.cells #[.bool false, .string S, .slice a i.kids.length cap] 24)).heap[w.heap.size]? = some (.cells #[.bool false, .string S, .slice a i.kids.length cap] 24 (0, 0)) := heap_alloc_new _ _
        have hlt : b < w.heap.size := hI.elim (fun x => x.lt) (fun x => x.lt)
        have hIw : IsB B b l (w.alloc (.cells #[.bool false, .string S, .slice a i.kids.length cap] 24)) := hI.alloc _
        have hHw : Heads (w.alloc (.cells #[.bool false, .string S, .slice a i.kids.length cap] 24)) := hH.below (Hb0.out _) hB0
        have hBw := Hb0.out (.cells #[.bool false, .string S, .slice a i.kids.length cap] 24)
        have hsz : w.heap.size < (w.alloc (.cells #[.bool false, .string S, .slice a i.kids.length cap] 24)).heap.size := by simp
        generalize w.alloc (.cells #[.bool false, .string S, .slice a i.kids.length cap] 24) = X at *
        have cb : X.cell? ⟨w.heap.size, 1, none⟩ = some (.string S) := by rw [Lib.cell_of_heap hbox0]; rfl
        have Hbox : Hid _ := hbox0
        clear hbox0
        have hwr : IntKind.u64.wrap (S.size : Int) = (S.size : Int) := wrap_small S.size hSs
        go_cut [] (fun wx => IsB B b (l ++ Im.head 128 S.size) wx ∧ wx.cell? ⟨w.heap.size, 1, none⟩ = some (.string S) ∧ Below B w wx)
        case first =>
          go_region_with (first
            | (go_at_call 42; refine (headOf_str _ ?_ ?_).mono ?_; exact hHw; exact Nat.lt_of_le_of_lt (Nat.zero_le _) hsz; rintro e w3 ⟨rfl, hb3⟩; have cb3 : w3.cell? ⟨w.heap.size, 1, none⟩ = some (.string S) := (hb3.cell (p := ⟨w.heap.size, 1, none⟩) hsz).trans cb; have hI3 : IsB B b l w3 := builder_below (by exact hIw) hb3; have hs3 : w.heap.size < w3.heap.size := Nat.lt_of_lt_of_le hsz hb3.size; have hB3 : w3.heap[w.heap.size]? = some (.cells #[.bool false, .string S, .slice a i.kids.length cap] 24 (0, 0)) := (hb3.block w.heap.size hsz).trans Hbox.out; have HB3 : Hid (w3.heap[w.heap.size]? = some (.cells #[.bool false, .string S, .slice a i.kids.length cap] 24 (0, 0))) := hB3; clear hB3)
            | (go_at_call 43; try rw [hwr]
               refine (headWrite_str B b l false S.size _ ?_ (by omega) ?_ (by omega)).mono ?_; exact hI3; exact Nat.le_trans hB (Nat.le_of_lt hs3); rintro e w4 ⟨rfl, hI4, hb4, hk4⟩; have Hk4 : Hid _ := hk4; clear hk4))
          all_goals
            go_wp2_with fail
            go_meet
            have hB4 := Hk4.out w.heap.size _ HB3.out (by simp; omega) (by simp)
            have hm := hb3.mono (Nat.le_trans hB (Nat.le_of_lt hsz))
            exact ⟨hI4, by rw [Lib.cell_of_heap hB4]; rfl, Below.trans (Below.trans (by first | exact hBw | exact hBw.drew | exact below_drewN hBw _) hm) hb4⟩
        case rest =>
          obtain ⟨hI5, cb5, hb5⟩ := hcut
          clear cb
          go_wp2_with fail
          refine (bWrite B b _ S _ hI5 (by rw [List.length_append]; omega) (by have := hb5.size; omega)).mono ?_
          rintro e w6 ⟨rfl, hI6, hb6⟩
          go_wp2
          go_end0
          refine ⟨rfl, ?_, hb5.trans hb6⟩
          rw [hcS, ← List.append_assoc]
          exact hI6
    | true =>
      obtain ⟨d', rfl⟩ : ∃ d', d = d' + 1 := by
        cases d with
        | zero => simp [Im.code, hli] at hc
        | succ d' => exact ⟨d', rfl⟩
      have hbe : i.bytes.isEmpty = true := by
        cases hbe : i.bytes.isEmpty with
        | true => rfl
        | false => simp [Im.code, hli, hbe] at hc
      rw [Im.code_list d' i hli hbe] at hc
      obtain ⟨s, hs, hsc⟩ := Option.map_eq_some_iff.1 hc
      have hs8 : Im.cat (Im.code 8) i.kids = some s := Im.cat_mono (Im.code d') (Im.code 8) i.kids s (fun k c _ hk => by
        have := Im.code_mono k c (8 - d') d' hk
        rw [show d' + (8 - d') = 8 from by omega] at this
        exact this) hs
      have hcS : c = Im.head 192 s.length ++ s := hsc.symm
      have hsl : s.length ≤ 12582912 := Im.cat_len_kids Hdp.out hw (fun _ hx => hx) (by simp only [Im.wt]; omega) hs
      have hhl := Im.head_le 192 s.length (by omega)
      have hlc2 : l.length + ((Im.head 192 s.length).length + s.length) ≤ 12582912 := by rw [hcS, List.length_append] at hlc; exact hlc
      have hcall : ∀ (W : World), Below w.heap.size w W → Calls Tryd.prog 40 #[.slice a i.kids.length cap, .int .i64 1] W fun e w' => e = .returned (sizeV (Im.cat (Im.code 8) i.kids)) ∧ Below W.heap.size W w' :=
        fun (W : World) (hW : Below w.heap.size w W) => together_any n (size_any n) D i (.bool i.list) (.string S) a i.kids.length cap 1 W (Nat.le_trans (Nat.le_trans hD hB) hW.size) hw (by omega) (by omega) (In.below (hW.mono (Nat.le_trans hD hB)) _ _ _ _ _ Hin.out)
      rw [hs8] at hcall
      have h3 : i.kids ≠ [] → ∃ b off, a = some ⟨b, off, none⟩ ∧ b < D ∧ ∀ (j : Nat) (hj : j < i.kids.length), ∃ d0 d1 d2, K3 w b (off + j * 3) d0 d1 d2 ∧ In D w n d0 d1 d2 (i.kids[j]) := by
        obtain ⟨h00, h01, a0, cap0, hsl2, h3⟩ := Hin.out
        simp only [Value.slice.injEq] at hsl2
        obtain ⟨rfl, _, rfl⟩ := hsl2
        exact h3
      have H3 : Hid _ := h3
      have Hcall : Hid _ := hcall
      have Hs : Hid _ := hs
      have HcS : Hid _ := hcS
      have Hih : Hid _ := ih
      clear hcall hs hcS hs8 hsc hc hSl h3 Hin ih
      have hbox0 : (w.alloc (.cells #[.bool true, .string S, .slice a i.kids.length cap] 24)).heap[w.heap.size]? = some (.cells #[.bool true, .string S, .slice a i.kids.length cap] 24 (0, 0)) := heap_alloc_new _ _
      have hlt : b < w.heap.size := hI.elim (fun x => x.lt) (fun x => x.lt)
      have hIw : IsB B b l (w.alloc (.cells #[.bool true, .string S, .slice a i.kids.length cap] 24)) := hI.alloc _
      have hHw : Heads (w.alloc (.cells #[.bool true, .string S, .slice a i.kids.length cap] 24)) := hH.below (Hb0.out _) hB0
      have hBw := Hb0.out (.cells #[.bool true, .string S, .slice a i.kids.length cap] 24)
      have hsz : w.heap.size < (w.alloc (.cells #[.bool true, .string S, .slice a i.kids.length cap] 24)).heap.size := by simp
      have hBW : Below w.heap.size w (w.alloc (.cells #[.bool true, .string S, .slice a i.kids.length cap] 24)) := (Below.refl _ w).alloc (Nat.le_refl _) _
      have Hx : Hid _ := And.intro hbox0 (And.intro hIw (And.intro hHw (And.intro hBw (And.intro hsz hBW))))
      clear hbox0 hIw hHw hBw hsz hBW
      go_enter Tryd.func30, Tryd.ntmps30
      go_wp2_with fail
      obtain ⟨hbox0, hIw, hHw, hBw, hsz, hBW⟩ := Hx.out
      generalize w.alloc (.cells #[.bool true, .string S, .slice a i.kids.length cap] 24) = X at *
      refine (Hcall.out X hBW).mono ?_
      rintro e w1 ⟨rfl, hb1⟩
      have hI1 := builder_below hIw hb1
      have hH1 := hHw.below hb1 (by omega)
      have hx1 := (hb1.block w.heap.size hsz).trans hbox0
      have hs1 : w.heap.size < w1.heap.size := Nat.lt_of_lt_of_le hsz hb1.size
      have hB1 := hBw.trans (hb1.mono (Nat.le_trans hB (Nat.le_of_lt hsz)))
      clear hbox0 hIw hHw hBw hsz hBW hb1 Hx
      simp only [sizeV]
      have Hx1 : Hid _ := hx1
      clear hx1
      go_wp2_with fail
      refine (headOf_list _ hH1 (by omega)).mono ?_
      rintro e w2 ⟨rfl, hb2⟩
      have hI2 := builder_below hI1 hb2
      have hx2 := (hb2.block w.heap.size hs1).trans Hx1.out
      have hs2 : w.heap.size < w2.heap.size := Nat.lt_of_lt_of_le hs1 hb2.size
      have hB2 := hB1.trans (hb2.mono (Nat.le_trans hB (Nat.le_of_lt hs1)))
      have Hx2 : Hid _ := hx2
      clear hx2 hI1 hb2 hB1 Hx1
      go_wp2_with fail
      refine (headWrite_list B b l true s.length _ hI2 (by omega) (by omega) (by omega)).mono ?_
      rintro e w3 ⟨rfl, hI3, hb3, hk3⟩
      have hx3 := hk3 w.heap.size _ Hx2.out (by simp; omega) (by simp)
      have cb3 : w3.cell? ⟨w.heap.size, 2, none⟩ = some (.slice a i.kids.length cap) := by rw [Lib.cell_of_heap hx3]; rfl
      have hB3 := hB2.trans hb3
      have hs3 : w.heap.size < w3.heap.size := Nat.lt_of_lt_of_le hs2 hb3.size
      clear hx3 hk3 hI2 hB2 hb3 Hx2
      have hcl : i.kids.length ≤ 2097152 := by omega
      go_wp2_with fail
      clear cb3
      go_loopg [35] i.kids.length (fun g t wx => ∃ (k : Nat) (acc : List UInt8), k ≤ i.kids.length ∧ t = .int .i64 k ∧ g = i.kids.length - k ∧ Hid (Im.cat (Im.code d') (i.kids.take k) = some acc) ∧ IsB B b (l ++ Im.head 192 s.length ++ acc) wx ∧ Below B w wx)
      case atStart => exact ⟨0, [], Nat.zero_le _, rfl, rfl, rfl, by rw [List.append_nil]; exact hI3, hB3⟩
      case round =>
        obtain ⟨k, acc, hk, rfl, rfl, Hacc, hI4, hb4⟩ := hrel
        clear hI3 hB3 hH1
        by_cases hlt2 : k < i.kids.length
        · have hlt' : (k : Int) < (i.kids.length : Int) := by omega
          have hne2 : i.kids ≠ [] := by intro e; rw [e] at hlt2; simp at hlt2
          obtain ⟨b', off, rfl, hbB, hj⟩ := H3.out hne2
          obtain ⟨d0, d1, d2, hd3, hin⟩ := hj k hlt2
          obtain ⟨ka, kcap, rfl, rfl, rfl⟩ := hin.shape
          have hwk := Im.wt_kid (n := n) (List.getElem_mem hlt2)
          obtain ⟨p0, p1, p2⟩ := hd3.below hb4 (by omega)
          obtain ⟨ck, tk, hck, hst⟩ := cat_mid (Im.code d') (i.kids.take k) i.kids[k] (i.kids.drop (k + 1)) s acc (by rw [← List.drop_eq_getElem_cons hlt2, List.take_append_drop]; exact Hs.out) Hacc.out
          have hsn : Im.cat (Im.code d') (i.kids.take (k + 1)) = some (acc ++ ck) := by
            rw [List.take_succ_eq_append_getElem hlt2, Im.cat_snoc_of _ _ _ _ Hacc.out, hck]
            rfl
          have hlens : acc.length + ck.length ≤ s.length := by rw [hst]; simp only [List.length_append]; omega
          have hcall2 := fun (W : World) (hIW : IsB B b (l ++ Im.head 192 s.length ++ acc) W) (hW : Below B w W) => Hih.out B b D d' (l ++ Im.head 192 s.length ++ acc) ck i.kids[k] _ _ _ W hIW (Nat.le_trans hB hW.size) hD hB0 (hH.below hW hB0) (by omega) (by omega) hck (by simp only [List.length_append]; omega) (In.below (hW.mono hD) _ _ _ _ _ hin)
          have Hcall2 : Hid _ := hcall2
          have Hsn : Hid _ := hsn
          clear hcall2 hsn hj hd3 hin hne2 hst hck Hcall
          go_wp2_with fail
          refine (Hcall2.out _ (hI4.alloc _) (hb4.alloc (by have := hb4.size; omega) _)).mono ?_
          rintro e w5 ⟨rfl, hI5, hb5⟩
          go_wp2_with fail
          go_roundg (i.kids.length - (k + 1))
          case measure => omega
          case rel =>
            refine ⟨k + 1, acc ++ ck, by omega, by go_num, rfl, Hsn.out, ?_, (hb4.alloc (by have := hb4.size; omega) _).trans hb5⟩
            rw [← List.append_assoc]
            exact hI5
        · have hlt' : ¬ (k : Int) < (i.kids.length : Int) := by omega
          have hke : k = i.kids.length := by omega
          have has : acc = s := by
            have := Hacc.out
            rw [hke, List.take_length, Hs.out] at this
            simpa using this.symm
          subst has
          clear hke
          go_wp2
          go_end0
          refine ⟨rfl, ?_, hb4⟩
          rw [HcS.out, ← List.append_assoc]
          exact hI4
end Go.Proofs.YtpibpdpedjinhaaDoor
