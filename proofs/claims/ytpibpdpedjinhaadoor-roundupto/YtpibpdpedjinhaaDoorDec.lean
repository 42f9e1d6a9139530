/- Plain mathematics of reading codes of items: which bytes are the code of which item. No program is named here. -/
import Derived.Test.YtpibpdpedjinhaaDoorItems
namespace Go.Proofs.YtpibpdpedjinhaaDoor.Im

/-- a number of bytes, the highest first -/
def val : List UInt8 → Nat → Nat
  | [], a => a
  | x :: r, a => val r (256 * a + x.toNat)
theorem val_append : ∀ (a b : List UInt8) (n : Nat), val (a ++ b) n = val b (val a n)
  | [], _, _ => rfl
  | x :: a, b, n => by simp only [List.cons_append, val]; exact val_append a b _
theorem val_num : ∀ (k n : Nat), n < 256 ^ k → val (num k n) 0 = n
  | 0, n, h => by simp at h; subst h; rfl
  | k + 1, n, h => by
    rw [num]
    split
    · rename_i e; subst e; rfl
    · rw [val_append, val_num k (n / 256) (by rw [Nat.pow_succ] at h; omega)]
      simp only [val]
      have : (UInt8.ofNat (n % 256)).toNat = n % 256 := by simp
      rw [this]
      omega
theorem wid_lt (n : Nat) (h : n < 4294967296) : n < 256 ^ wid n := by
  unfold wid
  repeat' split
  all_goals (simp; omega)
theorem val_wid (n : Nat) (h : n < 4294967296) : val (num 4 n) 0 = n := by
  rw [num_fuel 4 n h (wid_le n).1]
  exact val_num _ n (wid_lt n h)
theorem num_head (n : Nat) (h0 : n ≠ 0) (h : n < 4294967296) : ∃ x r, num 4 n = x :: r ∧ x ≠ 0 := by
  have key : ∀ (k n : Nat), n ≠ 0 → n < 256 ^ k → ∃ x r, num k n = x :: r ∧ x ≠ 0 := by
    intro k
    induction k with
    | zero => intro n h0 h; simp at h; omega
    | succ k ih =>
      intro n h0 h
      rw [num, if_neg h0]
      by_cases e : n / 256 = 0
      · rw [e, num_zero]
        refine ⟨UInt8.ofNat (n % 256), [], rfl, fun hx => ?_⟩
        have := congrArg UInt8.toNat hx
        simp at this
        omega
      · obtain ⟨x, r, h1, h2⟩ := ih (n / 256) e (by rw [Nat.pow_succ] at h; omega)
        exact ⟨x, r ++ [UInt8.ofNat (n % 256)], by rw [h1]; rfl, h2⟩
  rw [num_fuel 4 n h (wid_le n).1]
  exact key _ n h0 (wid_lt n h)

/-- of four bytes at most, the first of them not 0: the number has just these -/
theorem num_val : ∀ (bs : List UInt8), bs.length ≤ 4 → (∀ x r, bs = x :: r → x ≠ 0) → bs ≠ [] → num 4 (val bs 0) = bs ∧ wid (val bs 0) = bs.length ∧ val bs 0 < 4294967296 := by
  intro bs hl hx hne
  have ofn : ∀ x : UInt8, UInt8.ofNat x.toNat = x := fun x => by simp
  have lt : ∀ x : UInt8, x.toNat < 256 := fun x => x.toNat_lt
  have nz : ∀ x : UInt8, x ≠ 0 → x.toNat ≠ 0 := fun x h e => h (UInt8.toNat_inj.1 e)
  match bs, hl with
  | [a], _ =>
    have ha := nz a (hx a _ rfl); have := lt a
    simp only [val, Nat.mul_zero, Nat.zero_add]
    have w : wid a.toNat = 1 := by unfold wid; rw [if_neg ha, if_pos this]
    refine ⟨?_, w, by omega⟩
    rw [num_fuel 4 _ (by omega) (by omega), w]
    simp [num, ha, Nat.mod_eq_of_lt this]
  | [a, b], _ =>
    have ha := nz a (hx a _ rfl); have := lt a; have := lt b
    simp only [val, Nat.mul_zero, Nat.zero_add]
    have w : wid (256 * a.toNat + b.toNat) = 2 := by unfold wid; rw [if_neg (by omega), if_neg (by omega), if_pos (by omega)]
    refine ⟨?_, w, by omega⟩
    rw [num_fuel 4 _ (by omega) (by omega), w]
    have e1 : (256 * a.toNat + b.toNat) / 256 = a.toNat := by omega
    have e2 : (256 * a.toNat + b.toNat) % 256 = b.toNat := by omega
    have e3 : a.toNat % 256 = a.toNat := by omega
    rw [num, if_neg (by omega), e1, e2, num, if_neg ha, e3, num]
    simp
  | [a, b, c], _ =>
    have ha := nz a (hx a _ rfl); have := lt a; have := lt b; have := lt c
    simp only [val, Nat.mul_zero, Nat.zero_add]
    have w : wid (256 * (256 * a.toNat + b.toNat) + c.toNat) = 3 := by unfold wid; rw [if_neg (by omega), if_neg (by omega), if_neg (by omega), if_pos (by omega)]
    refine ⟨?_, w, by omega⟩
    rw [num_fuel 4 _ (by omega) (by omega), w]
    have e1 : (256 * (256 * a.toNat + b.toNat) + c.toNat) / 256 = 256 * a.toNat + b.toNat := by omega
    have e2 : (256 * (256 * a.toNat + b.toNat) + c.toNat) % 256 = c.toNat := by omega
    have e3 : (256 * a.toNat + b.toNat) / 256 = a.toNat := by omega
    have e4 : (256 * a.toNat + b.toNat) % 256 = b.toNat := by omega
    have e5 : a.toNat % 256 = a.toNat := by omega
    rw [num, if_neg (by omega), e1, e2, num, if_neg (by omega), e3, e4, num, if_neg ha, e5, num]
    simp
  | [a, b, c, d], _ =>
    have ha := nz a (hx a _ rfl); have := lt a; have := lt b; have := lt c; have := lt d
    simp only [val, Nat.mul_zero, Nat.zero_add]
    have w : wid (256 * (256 * (256 * a.toNat + b.toNat) + c.toNat) + d.toNat) = 4 := by unfold wid; rw [if_neg (by omega), if_neg (by omega), if_neg (by omega), if_neg (by omega)]
    refine ⟨?_, w, by omega⟩
    have e1 : (256 * (256 * (256 * a.toNat + b.toNat) + c.toNat) + d.toNat) / 256 = 256 * (256 * a.toNat + b.toNat) + c.toNat := by omega
    have e2 : (256 * (256 * (256 * a.toNat + b.toNat) + c.toNat) + d.toNat) % 256 = d.toNat := by omega
    have e3 : (256 * (256 * a.toNat + b.toNat) + c.toNat) / 256 = 256 * a.toNat + b.toNat := by omega
    have e4 : (256 * (256 * a.toNat + b.toNat) + c.toNat) % 256 = c.toNat := by omega
    have e5 : (256 * a.toNat + b.toNat) / 256 = a.toNat := by omega
    have e6 : (256 * a.toNat + b.toNat) % 256 = b.toNat := by omega
    have e7 : a.toNat % 256 = a.toNat := by omega
    rw [num, if_neg (by omega), e1, e2, num, if_neg (by omega), e3, e4, num, if_neg (by omega), e5, e6, num, if_neg ha, e7, num]
    simp

/- WHERE THE BODY OF A CODE STANDS, strictly -/
def chk (l : Bool) (s : List UInt8) (from_ n : Nat) : Option (Bool × Nat × Nat) :=
  if s.length - from_ < n then none else if l = false ∧ n = 1 ∧ (s.getD from_ 0).toNat < 128 then none else some (l, from_, from_ + n)
def far (l : Bool) (s : List UInt8) (from_ : Nat) : Option (Bool × Nat × Nat) :=
  if s.length < from_ ∨ s.getD 1 0 = 0 then none else if val ((s.take from_).drop 1) 0 ≤ 55 then none else chk l s from_ (val ((s.take from_).drop 1) 0)
def body (s : List UInt8) : Option (Bool × Nat × Nat) :=
  match s with
  | [] => none
  | c :: _ =>
    if c.toNat < 128 then some (false, 0, 1)
    else if c.toNat ≤ 183 then chk false s 1 (c.toNat - 128)
    else if c.toNat ≤ 187 then far false s (1 + (c.toNat - 183))
    else if c.toNat < 192 then none
    else if c.toNat ≤ 247 then chk true s 1 (c.toNat - 192)
    else if c.toNat ≤ 251 then far true s (1 + (c.toNat - 247))
    else none

/-- the body of a code that begins here -/
theorem body_begun (l : Bool) (b rest : List UInt8) (hb : b.length < 4294967296) (hn : l = false → bare b = false) :
    body (begun (if l = true then 192 else 128) b ++ rest) = some (l, (head (if l = true then 192 else 128) b.length).length, (head (if l = true then 192 else 128) b.length).length + b.length) := by
  unfold begun head
  by_cases h55 : b.length ≤ 55
  · rw [if_pos h55]
    have chk1 : ∀ x : UInt8, chk l ([x] ++ b ++ rest) 1 b.length = some (l, 1, 1 + b.length) := by
      intro x
      unfold chk
      rw [if_neg (by simp), if_neg]
      rintro ⟨rfl, h1, h2⟩
      match b, h1 with
      | [y], _ => have := hn rfl; simp [bare] at this; simp at h2; omega
    cases l with
    | true =>
      have e : (UInt8.ofNat (192 + b.length)).toNat = 192 + b.length := by simp; omega
      have := chk1 (UInt8.ofNat (192 + b.length))
      simp only [if_true, List.cons_append, List.nil_append, body, e, List.length_cons, List.length_nil] at this ⊢
      rw [if_neg (by omega), if_neg (by omega), if_neg (by omega), if_neg (by omega), if_pos (by omega), Nat.add_sub_cancel_left]
      simpa using this
    | false =>
      have e : (UInt8.ofNat (128 + b.length)).toNat = 128 + b.length := by simp; omega
      have := chk1 (UInt8.ofNat (128 + b.length))
      simp only [Bool.false_eq_true, if_false, List.cons_append, List.nil_append, body, e, List.length_cons, List.length_nil] at this ⊢
      rw [if_neg (by omega), if_pos (by omega), Nat.add_sub_cancel_left]
      simpa using this
  · rw [if_neg h55]
    have hw := wid_le b.length
    have hw1 : 1 ≤ wid b.length := by unfold wid; repeat' split
                                      all_goals omega
    have hnl := num_len 4 b.length hb hw.1
    obtain ⟨y, r, hy, hy0⟩ := num_head b.length (by omega) hb
    have hv := val_wid b.length hb
    have far1 : ∀ x : UInt8, far l (x :: num 4 b.length ++ b ++ rest) (1 + wid b.length) = some (l, 1 + wid b.length, 1 + wid b.length + b.length) := by
      intro x
      have et : ((x :: num 4 b.length ++ b ++ rest).take (1 + wid b.length)).drop 1 = num 4 b.length := by
        rw [Nat.add_comm, List.cons_append, List.cons_append, List.take_succ_cons, List.drop_succ_cons, List.drop_zero, List.append_assoc, ← hnl, List.take_left]
      unfold far
      rw [et, hv, if_neg, if_neg h55]
      · unfold chk
        rw [if_neg (by simp [hnl]; omega), if_neg (by omega)]
      · rw [hy]
        simp only [List.cons_append, List.length_cons, List.length_append, List.getD_cons_succ, List.getD_cons_zero]
        rw [hy] at hnl
        simp only [List.length_cons] at hnl
        intro h
        rcases h with h | h
        · omega
        · exact hy0 h
    cases l with
    | true =>
      have e : (UInt8.ofNat (192 + 55 + wid b.length)).toNat = 192 + 55 + wid b.length := by simp; omega
      have := far1 (UInt8.ofNat (192 + 55 + wid b.length))
      simp only [if_true, List.cons_append, body, e, List.length_cons, hnl] at this ⊢
      rw [if_neg (by omega), if_neg (by omega), if_neg (by omega), if_neg (by omega), if_neg (by omega), if_pos (by omega), show 192 + 55 + wid b.length - 247 = wid b.length from by omega, this]
      simp; omega
    | false =>
      have e : (UInt8.ofNat (128 + 55 + wid b.length)).toNat = 128 + 55 + wid b.length := by simp; omega
      have := far1 (UInt8.ofNat (128 + 55 + wid b.length))
      simp only [Bool.false_eq_true, if_false, List.cons_append, body, e, List.length_cons, hnl] at this ⊢
      rw [if_neg (by omega), if_neg (by omega), if_pos (by omega), show 128 + 55 + wid b.length - 183 = wid b.length from by omega, this]
      simp; omega
theorem body_bare (x : UInt8) (rest : List UInt8) (h : x.toNat < 128) : body (x :: rest) = some (false, 0, 1) := by
  simp [body, h]

theorem chk_some {l : Bool} {s : List UInt8} {f n : Nat} {x : Bool × Nat × Nat} (h : chk l s f n = some x) : x = (l, f, f + n) ∧ n ≤ s.length - f ∧ (l = false → n = 1 → 128 ≤ (s.getD f 0).toNat) := by
  unfold chk at h
  split at h
  · simp at h
  · split at h
    · simp at h
    · rename_i h1 h2
      simp only [Option.some.injEq] at h
      refine ⟨h.symm, by omega, fun a b => ?_⟩
      rcases Nat.lt_or_ge (s.getD f 0).toNat 128 with h3 | h3
      · exact absurd ⟨a, b, h3⟩ h2
      · exact h3
/-- what a strict body is: the code of a string, or of what stands in a list -/
theorem body_some (s : List UInt8) (l : Bool) (f t : Nat) (h : body s = some (l, f, t)) :
    f ≤ t ∧ t ≤ s.length ∧ 1 ≤ t ∧ (l = false → s.take t = sc ((s.take t).drop f)) ∧ (l = true → s.take t = begun 192 ((s.take t).drop f)) := by
  cases s with
  | nil => simp [body] at h
  | cons c r =>
    have hc := c.toNat_lt
    have ofn : ∀ n, n = c.toNat → UInt8.ofNat n = c := fun n e => by rw [e]; simp
    -- a short body
    have near : ∀ (l' : Bool) (b0 : Nat), (b0 = if l' = true then 192 else 128) → b0 ≤ c.toNat → c.toNat ≤ b0 + 55 → chk l' (c :: r) 1 (c.toNat - b0) = some (l, f, t) → f ≤ t ∧ t ≤ (c :: r).length ∧ 1 ≤ t ∧ (l = false → (c :: r).take t = sc (((c :: r).take t).drop f)) ∧ (l = true → (c :: r).take t = begun 192 (((c :: r).take t).drop f)) := by
      intro l' b0 hb0 h1 h2 hk
      obtain ⟨hx, hn, hone⟩ := chk_some hk
      simp only [Prod.mk.injEq] at hx
      obtain ⟨rfl, rfl, rfl⟩ := hx
      simp only [List.length_cons, Nat.add_sub_cancel] at hn
      have et : (c :: r).take (1 + (c.toNat - b0)) = c :: r.take (c.toNat - b0) := by rw [Nat.add_comm, List.take_succ_cons]
      have ed : ((c :: r).take (1 + (c.toNat - b0))).drop 1 = r.take (c.toNat - b0) := by rw [et]; rfl
      have hl : (r.take (c.toNat - b0)).length = c.toNat - b0 := by simp; omega
      have hbe : begun b0 (r.take (c.toNat - b0)) = c :: r.take (c.toNat - b0) := by
        unfold begun head
        rw [hl, if_pos (by omega), ofn _ (by omega)]
        rfl
      refine ⟨by omega, by simp; omega, by omega, fun e => ?_, fun e => ?_⟩
      · subst e
        rw [ed, et]
        simp only [Bool.false_eq_true, if_false] at hb0
        subst hb0
        unfold sc
        have hnb : bare (r.take (c.toNat - 128)) = false := by
          cases hq : r.take (c.toNat - 128) with
          | nil => rfl
          | cons y q =>
            cases q with
            | cons z q => rfl
            | nil =>
              have h1' : c.toNat - 128 = 1 := by rw [← hl, hq]; rfl
              have := hone rfl h1'
              rw [h1'] at hq
              cases r with
              | nil => simp at hq
              | cons w r =>
                simp at hq
                subst hq
                simp at this
                simp [bare]
                omega
        rw [if_neg (by rw [hnb]; simp), hbe]
      · subst e
        rw [ed, et]
        simp only [if_true] at hb0
        subst hb0
        exact hbe.symm
    -- a long body
    have longer : ∀ (l' : Bool) (b0 : Nat), (b0 = if l' = true then 192 else 128) → b0 + 55 < c.toNat → c.toNat ≤ b0 + 59 → far l' (c :: r) (1 + (c.toNat - (b0 + 55))) = some (l, f, t) → f ≤ t ∧ t ≤ (c :: r).length ∧ 1 ≤ t ∧ (l = false → (c :: r).take t = sc (((c :: r).take t).drop f)) ∧ (l = true → (c :: r).take t = begun 192 (((c :: r).take t).drop f)) := by
      intro l' b0 hb0 h1 h2 hk
      obtain ⟨k, hkk⟩ : ∃ k, c.toNat - (b0 + 55) = k := ⟨_, rfl⟩
      rw [hkk] at hk
      unfold far at hk
      split at hk
      · simp at hk
      · rename_i hg
        simp only [not_or, Nat.not_lt, List.length_cons] at hg
        split at hk
        · simp at hk
        · rename_i h55
          have ed1 : ((c :: r).take (1 + k)).drop 1 = r.take k := by rw [Nat.add_comm, List.take_succ_cons]; rfl
          rw [ed1] at hk h55
          obtain ⟨hx, hn, _⟩ := chk_some hk
          simp only [Prod.mk.injEq] at hx
          obtain ⟨rfl, rfl, rfl⟩ := hx
          have hlk : (r.take k).length = k := by simp; omega
          obtain ⟨g1, g2, g3⟩ := num_val (r.take k) (by omega) (fun x q e => by
            cases r with
            | nil => simp at hlk; omega
            | cons w r =>
              cases k with
              | zero => omega
              | succ k =>
                rw [List.take_succ_cons] at e
                simp at e
                rw [← e.1]
                simpa using hg.2) (by intro e; rw [e] at hlk; simp at hlk; omega)
          generalize hv : val (r.take k) 0 = n at *
          simp only [List.length_cons] at hn
          have et : (c :: r).take (1 + k + n) = c :: (r.take k ++ (r.drop k).take n) := by
            rw [show 1 + k + n = (k + n) + 1 from by omega, List.take_succ_cons, List.take_add]
          have ed : ((c :: r).take (1 + k + n)).drop (1 + k) = (r.drop k).take n := by
            rw [et, Nat.add_comm 1 k, List.drop_succ_cons, List.drop_left' hlk]
          have hl2 : ((r.drop k).take n).length = n := by simp; omega
          have hbe : begun b0 ((r.drop k).take n) = c :: (r.take k ++ (r.drop k).take n) := by
            unfold begun head
            rw [hl2, if_neg h55, g1, g2, hlk, ofn _ (by omega)]
            rfl
          refine ⟨by omega, by simp; omega, by omega, fun e => ?_, fun e => ?_⟩
          · subst e
            rw [ed, et]
            simp only [Bool.false_eq_true, if_false] at hb0
            subst hb0
            unfold sc
            rw [if_neg, hbe]
            intro hb
            cases hq : (r.drop k).take n with
            | nil => rw [hq] at hb; simp [bare] at hb
            | cons y q =>
              cases q with
              | nil => rw [hq] at hl2; simp at hl2; omega
              | cons z q => rw [hq] at hb; simp [bare] at hb
          · subst e
            rw [ed, et]
            simp only [if_true] at hb0
            subst hb0
            exact hbe.symm
    simp only [body] at h
    split at h
    · simp only [Option.some.injEq, Prod.mk.injEq] at h
      obtain ⟨rfl, rfl, rfl⟩ := h
      rename_i h128
      refine ⟨by omega, by simp, by omega, fun _ => ?_, fun e => by cases e⟩
      simp [sc, bare, h128]
    · split at h
      · exact near false 128 rfl (by omega) (by omega) h
      · split at h
        · exact longer false 128 rfl (by omega) (by omega) (by rw [show 128 + 55 = 183 from rfl]; exact h)
        · split at h
          · simp at h
          · split at h
            · exact near true 192 rfl (by omega) (by omega) h
            · split at h
              · exact longer true 192 rfl (by omega) (by omega) (by rw [show 192 + 55 = 247 from rfl]; exact h)
              · simp at h
end Go.Proofs.YtpibpdpedjinhaaDoor.Im
