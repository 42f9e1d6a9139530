/- Plain mathematics of items and their codes. No program is named here. -/
import Derived.Lib.BitFns
namespace Go.Proofs.YtpibpdpedjinhaaDoor.Im

/-- an item: a string of bytes, or a list of items (wrong ones too) -/
structure It where
  list : Bool
  bytes : List UInt8
  kids : List It

/-- how many letters and items, down to a depth -/
def wt : Nat → It → Nat
  | 0, _ => 0
  | n + 1, i => i.bytes.length + 1 + (i.kids.map (wt n)).sum

theorem sum_ge {l : List Nat} {x : Nat} (h : x ∈ l) : x ≤ l.sum := by
  induction l with
  | nil => cases h
  | cons a l ih =>
    simp only [List.sum_cons]
    rcases List.mem_cons.1 h with rfl | h
    · omega
    · have := ih h; omega
theorem wt_kid {n : Nat} {i k : It} (h : k ∈ i.kids) : wt n k + 1 ≤ wt (n + 1) i := by
  have : wt n k ∈ i.kids.map (wt n) := List.mem_map.2 ⟨k, h, rfl⟩
  have := sum_ge this
  simp only [wt]
  omega
theorem sum_len {l : List Nat} (h : ∀ x, x ∈ l → 1 ≤ x) : l.length ≤ l.sum := by
  induction l with
  | nil => simp
  | cons a l ih =>
    have h1 := h a (List.mem_cons_self ..)
    have h2 := ih (fun x hx => h x (List.mem_cons_of_mem _ hx))
    simp only [List.sum_cons, List.length_cons]
    omega

/-- no deeper than so -/
def dp : Nat → It → Prop
  | 0, _ => False
  | n + 1, i => ∀ k, k ∈ i.kids → dp n k
theorem wt_pos {n : Nat} {i : It} (h : dp n i) : 1 ≤ wt n i := by
  cases n with
  | zero => cases h
  | succ n => simp only [wt]; omega
theorem kids_le {n : Nat} {i : It} (h : dp n i) : i.kids.length + i.bytes.length + 1 ≤ wt n i := by
  cases n with
  | zero => cases h
  | succ n =>
    have := sum_len (l := i.kids.map (wt n)) (fun x hx => by
      obtain ⟨k, hk, rfl⟩ := List.mem_map.1 hx
      exact wt_pos (h k hk))
    rw [List.length_map] at this
    simp only [wt]
    omega

/- NUMBERS -/
/-- a number's bytes, the highest first -/
def num : Nat → Nat → List UInt8
  | 0, _ => []
  | f + 1, n => if n = 0 then [] else num f (n / 256) ++ [UInt8.ofNat (n % 256)]
/-- as many bytes as a number below 2^32 has -/
def wid (n : Nat) : Nat := if n = 0 then 0 else if n < 256 then 1 else if n < 65536 then 2 else if n < 16777216 then 3 else 4
theorem num_zero (f : Nat) : num f 0 = [] := by cases f <;> simp [num]
theorem wid_div (n : Nat) (h0 : n ≠ 0) (h : n < 4294967296) : wid n = wid (n / 256) + 1 := by
  unfold wid
  repeat' split
  all_goals omega
theorem wid_le (n : Nat) : wid n ≤ 4 ∧ wid n ≤ n := by
  unfold wid
  repeat' split
  all_goals omega
theorem num_len : ∀ (f n : Nat), n < 4294967296 → wid n ≤ f → (num f n).length = wid n
  | 0, n, _, h => by simp [num]; omega
  | f + 1, n, hn, h => by
    rw [num]
    split
    · rename_i e; subst e; simp [wid]
    · rename_i e
      have := wid_div n e hn
      rw [List.length_append, num_len f (n / 256) (by omega) (by omega)]
      simp
      omega
theorem num_fuel : ∀ (f n : Nat), n < 4294967296 → wid n ≤ f → num f n = num (wid n) n
  | 0, n, _, h => by
    have : wid n = 0 := by omega
    rw [this]
  | f + 1, n, hn, h => by
    by_cases e : n = 0
    · subst e; rw [num_zero, num_zero]
    · have hw := wid_div n e hn
      rw [hw, num, num, if_neg e, if_neg e, num_fuel f (n / 256) (by omega) (by omega)]
/-- the bytes as shifts make them: so many of them are still to come -/
def shifts (n : Nat) : Nat → List UInt8
  | 0 => []
  | k + 1 => UInt8.ofNat (n / 256 ^ k % 256) :: shifts n k
theorem shifts_snoc (n : Nat) : ∀ k : Nat, shifts n (k + 1) = shifts (n / 256) k ++ [UInt8.ofNat (n % 256)]
  | 0 => by simp [shifts]
  | k + 1 => by
    rw [shifts, shifts_snoc n k, shifts]
    have : n / 256 ^ (k + 1) = n / 256 / 256 ^ k := by rw [Nat.pow_succ, Nat.mul_comm, Nat.div_div_eq_div_mul]
    rw [this]
    rfl
theorem shifts_num : ∀ (k n : Nat), n < 4294967296 → wid n = k → shifts n k = num k n
  | 0, n, _, h => by
    have : n = 0 := by unfold wid at h; repeat' split at h
                       all_goals omega
    subst this
    rfl
  | k + 1, n, hn, h => by
    have e : n ≠ 0 := by intro e; subst e; simp [wid] at h
    have hw := wid_div n e hn
    rw [shifts_snoc, num, if_neg e, shifts_num k (n / 256) (by omega) (by omega)]
theorem wid_bits (n : Nat) (h : n < 4294967296) : (Lib.bitLen n + 7) / 8 = wid n := by
  have small : ∀ m : Nat, 0 < m → m < 256 → 1 ≤ Lib.bitLen m ∧ Lib.bitLen m ≤ 8 := by
    intro m h0 h1
    exact ⟨by have := (by decide +kernel : ∀ x : Fin 256, 0 < x.val → 1 ≤ Lib.bitLen x.val) ⟨m, h1⟩ h0; exact this, Lib.bitLen_le8 ⟨m, h1⟩⟩
  unfold wid
  split
  · rename_i e; subst e; decide
  · split
    · have := small n (by omega) (by omega); omega
    · split
      · rw [Lib.bitLen_shift8 n (by omega) (by omega)]
        have := small (n / 256) (by omega) (by omega)
        omega
      · split
        · rw [Lib.bitLen_shift16 n (by omega) (by omega)]
          have := small (n / 65536) (by omega) (by omega)
          omega
        · rw [Lib.bitLen_shift24 n (by omega) (by omega)]
          have := small (n / 16777216) (by omega) (by omega)
          omega

/- CODES -/
def head (near n : Nat) : List UInt8 := if n ≤ 55 then [UInt8.ofNat (near + n)] else UInt8.ofNat (near + 55 + wid n) :: num 4 n
def begun (near : Nat) (s : List UInt8) : List UInt8 := head near s.length ++ s
def bare (b : List UInt8) : Bool := match b with | [x] => decide (x.toNat < 128) | _ => false
def sc (b : List UInt8) : List UInt8 := if bare b then b else begun 128 b
/-- codes of items, one behind the other -/
def cat (f : It → Option (List UInt8)) : List It → Option (List UInt8)
  | [] => some []
  | k :: r => match f k with
    | none => none
    | some c => match cat f r with
      | none => none
      | some s => some (c ++ s)
/-- an item's code, lists at most so deep -/
def code : Nat → It → Option (List UInt8)
  | 0, i => if i.list = true then none else if i.kids.isEmpty then some (sc i.bytes) else none
  | d + 1, i => if i.list = true then (if i.bytes.isEmpty then (match cat (code d) i.kids with | none => none | some s => some (begun 192 s)) else none) else if i.kids.isEmpty then some (sc i.bytes) else none

theorem head_len (near n : Nat) (h : n < 4294967296) : (head near n).length = if n ≤ 55 then 1 else 1 + wid n := by
  unfold head
  split
  · rfl
  · rw [List.length_cons, num_len 4 n h (wid_le n).1]; omega
theorem head_le (near n : Nat) (h : n < 4294967296) : 1 ≤ (head near n).length ∧ (head near n).length ≤ 5 := by
  have := wid_le n
  rw [head_len near n h]
  split <;> omega
theorem cat_mono (f g : It → Option (List UInt8)) : ∀ (l : List It) (s : List UInt8), (∀ k c, k ∈ l → f k = some c → g k = some c) → cat f l = some s → cat g l = some s
  | [], s, _, h => h
  | k :: r, s, hk, h => by
    rw [cat] at h
    cases hf : f k with
    | none => rw [hf] at h; simp at h
    | some c =>
      rw [hf] at h
      cases hc : cat f r with
      | none => rw [hc] at h; simp at h
      | some t =>
        rw [hc] at h
        rw [cat, hk k c (List.mem_cons_self ..) hf]
        simp only
        rw [cat_mono f g r t (fun x c hx => hk x c (List.mem_cons_of_mem _ hx)) hc]
        exact h
theorem code_up : ∀ (d : Nat) (i : It) (c : List UInt8), code d i = some c → code (d + 1) i = some c
  | 0, i, c, h => by
    simp only [code] at h ⊢
    split at h
    · simp at h
    · rename_i e; rw [if_neg e]; exact h
  | d + 1, i, c, h => by
    rw [code] at h ⊢
    split at h
    · rename_i e
      rw [if_pos e]
      split at h
      · rename_i e2
        rw [if_pos e2]
        cases hc : cat (code d) i.kids with
        | none => rw [hc] at h; simp at h
        | some s =>
          rw [hc] at h
          rw [cat_mono (code d) (code (d + 1)) i.kids s (fun k c _ => code_up d k c) hc]
          exact h
      · simp at h
    · rename_i e; rw [if_neg e]; exact h
theorem code_mono (i : It) (c : List UInt8) : ∀ (e d : Nat), code d i = some c → code (d + e) i = some c
  | 0, _, h => h
  | e + 1, d, h => code_up (d + e) i c (code_mono i c e d h)

theorem sc_len (b : List UInt8) (h : b.length ≤ 2097152) : (sc b).length ≤ b.length + 5 := by
  unfold sc begun
  split
  · omega
  · rw [List.length_append]
    have := head_le 128 b.length (by omega)
    omega
theorem cat_len (f : It → Option (List UInt8)) (g : It → Nat) : ∀ (l : List It) (s : List UInt8), (∀ k c, k ∈ l → f k = some c → c.length ≤ 6 * g k) → cat f l = some s → s.length ≤ 6 * (l.map g).sum
  | [], s, _, h => by simp [cat] at h; subst h; simp
  | k :: r, s, hk, h => by
    rw [cat] at h
    cases hf : f k with
    | none => rw [hf] at h; simp at h
    | some c =>
      rw [hf] at h
      cases hc : cat f r with
      | none => rw [hc] at h; simp at h
      | some t =>
        rw [hc] at h
        simp only [Option.some.injEq] at h
        subst h
        have h1 := hk k c (List.mem_cons_self ..) hf
        have h2 := cat_len f g r t (fun x c hx => hk x c (List.mem_cons_of_mem _ hx)) hc
        simp only [List.length_append, List.map_cons, List.sum_cons]
        omega
/-- a code is not much longer than what it is of -/
theorem code_len : ∀ (n d : Nat) (i : It) (c : List UInt8), dp n i → wt n i ≤ 2097152 → code d i = some c → c.length ≤ 6 * wt n i
  | 0, _, _, _, h, _, _ => by cases h
  | n + 1, d, i, c, h, hw, hc => by
    have hk := kids_le h
    have str : (if i.kids.isEmpty then some (sc i.bytes) else none) = some c → c.length ≤ 6 * wt (n + 1) i := by
      intro h
      split at h
      · simp only [Option.some.injEq] at h
        subst h
        have := sc_len i.bytes (by omega)
        omega
      · simp at h
    cases d with
    | zero =>
      simp only [code] at hc
      split at hc
      · simp at hc
      · exact str hc
    | succ d =>
      simp only [code] at hc
      split at hc
      · split at hc
        · cases hcat : cat (code d) i.kids with
          | none => rw [hcat] at hc; simp at hc
          | some s =>
            rw [hcat] at hc
            simp only [Option.some.injEq] at hc
            subst hc
            have hl := cat_len (code d) (wt n) i.kids s (fun k c hk hc => by
              have := wt_kid (n := n) hk
              exact code_len n d k c (h k hk) (by omega) hc) hcat
            have hs : (i.kids.map (wt n)).sum ≤ wt (n + 1) i := by simp only [wt]; omega
            have := head_le 192 s.length (by omega)
            unfold begun
            rw [List.length_append]
            simp only [wt] at hw hs ⊢
            omega
        · simp at hc
      · exact str hc
/-- the same of the codes of some of a list's items -/
theorem cat_len_kids {n d : Nat} {i : It} {l : List It} {s : List UInt8} (h : dp (n + 1) i) (hw : wt (n + 1) i ≤ 2097152) (hl : ∀ k, k ∈ l → k ∈ i.kids) (hs : (l.map (wt n)).sum ≤ wt (n + 1) i) (hc : cat (code d) l = some s) : s.length ≤ 12582912 := by
  have := cat_len (code d) (wt n) l s (fun k c hk hc => by
    have := wt_kid (n := n) (hl k hk)
    exact code_len n d k c (h k (hl k hk)) (by omega) hc) hc
  omega
theorem cat_snoc (f : It → Option (List UInt8)) (l : List It) (k : It) : cat f (l ++ [k]) = (match cat f l with | none => none | some s => match f k with | none => none | some c => some (s ++ c)) := by
  induction l with
  | nil =>
    simp only [List.nil_append, cat]
    cases f k <;> simp
  | cons x l ih =>
    rw [List.cons_append, cat, cat, ih]
    cases f x with
    | none => rfl
    | some c =>
      cases cat f l with
      | none => rfl
      | some s =>
        cases f k with
        | none => rfl
        | some d => simp
theorem cat_snoc_of (f : It → Option (List UInt8)) (l : List It) (k : It) (s : List UInt8) (h : cat f l = some s) : cat f (l ++ [k]) = (f k).map (fun c => s ++ c) := by
  rw [cat_snoc, h]
  cases f k <;> rfl
theorem code_list (d : Nat) (i : It) (h1 : i.list = true) (h2 : i.bytes.isEmpty = true) : code (d + 1) i = (cat (code d) i.kids).map (begun 192) := by
  simp only [code]
  rw [if_pos h1, if_pos h2]
  cases cat (code d) i.kids <;> rfl
theorem cat_none (f : It → Option (List UInt8)) (l : List It) (k : It) (r : List It) (h : f k = none) : cat f (l ++ k :: r) = none := by
  induction l with
  | nil => simp only [List.nil_append, cat, h]
  | cons x l ih =>
    rw [List.cons_append, cat, ih]
    cases f x <;> rfl
end Go.Proofs.YtpibpdpedjinhaaDoor.Im
