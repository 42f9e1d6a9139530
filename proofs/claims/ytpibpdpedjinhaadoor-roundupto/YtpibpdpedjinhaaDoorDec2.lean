/- Plain mathematics of reading codes of items: a reader that is strict and one that is not give the same where what was read is written just so. No program is named here. -/
import Derived.Test.YtpibpdpedjinhaaDoorDec
namespace Go.Proofs.YtpibpdpedjinhaaDoor.Im

/-- items one behind the other, all of s -/
def many (g : List UInt8 → Option (It × Nat)) : Nat → List UInt8 → Option (List It)
  | 0, s => if s = [] then some [] else none
  | f + 1, s => if s = [] then some [] else match g s with
    | none => none
    | some (i, n) => (many g f (s.drop n)).map (fun l => i :: l)
/-- the item whose code begins here, lists at most so deep, and how long that code is; b: where its body stands -/
def read (b : List UInt8 → Option (Bool × Nat × Nat)) : Nat → List UInt8 → Option (It × Nat)
  | 0, s => match b s with
    | some (false, f, t) => some (⟨false, (s.take t).drop f, []⟩, t)
    | _ => none
  | d + 1, s => match b s with
    | none => none
    | some (false, f, t) => some (⟨false, (s.take t).drop f, []⟩, t)
    | some (true, f, t) => (many (read b d) s.length ((s.take t).drop f)).map (fun l => (⟨true, [], l⟩, t))

theorem many_nil (g : List UInt8 → Option (It × Nat)) (f : Nat) : many g f [] = some [] := by cases f <;> simp [many]
/-- codes one behind the other are read one by one -/
theorem many_cat (g : List UInt8 → Option (It × Nat)) (h : It → Option (List UInt8)) : ∀ (l : List It) (s : List UInt8) (f : Nat), cat h l = some s → s.length ≤ f → (∀ k c rest, k ∈ l → h k = some c → c.length ≤ s.length → g (c ++ rest) = some (k, c.length) ∧ 1 ≤ c.length) → many g f s = some l
  | [], s, f, hc, _, _ => by
    simp only [cat, Option.some.injEq] at hc
    subst hc
    exact many_nil g f
  | k :: l, s, f, hc, hf, hg => by
    rw [cat] at hc
    cases hk : h k with
    | none => rw [hk] at hc; simp at hc
    | some c =>
      rw [hk] at hc
      cases hr : cat h l with
      | none => rw [hr] at hc; simp at hc
      | some t =>
        rw [hr] at hc
        simp only [Option.some.injEq] at hc
        subst hc
        rw [List.length_append] at hf
        obtain ⟨g1, g2⟩ := hg k c t (List.mem_cons_self ..) hk (by simp)
        obtain ⟨f', rfl⟩ : ∃ f', f = f' + 1 := ⟨f - 1, by omega⟩
        rw [many, if_neg (by intro e; have := congrArg List.length e; simp only [List.length_append, List.length_nil] at this; omega), g1]
        simp only [List.drop_left]
        rw [many_cat g h l t f' hr (by omega) (fun k c rest hk hh hl => hg k c rest (List.mem_cons_of_mem _ hk) hh (by rw [List.length_append]; omega))]
        rfl
/-- COMPLETE: a code is read, whatever stands behind it, by whoever finds the bodies of codes -/
theorem read_code (b : List UInt8 → Option (Bool × Nat × Nat)) (hb : ∀ s x, body s = some x → b s = some x) : ∀ (d : Nat) (i : It) (c rest : List UInt8), code d i = some c → c.length < 4294967296 → read b d (c ++ rest) = some (i, c.length) ∧ 1 ≤ c.length := by
  have str : ∀ (d : Nat) (i : It) (c rest : List UInt8), i.list = false → code d i = some c → c.length < 4294967296 → read b d (c ++ rest) = some (i, c.length) ∧ 1 ≤ c.length := by
    intro d i c rest hl hc hlen
    have hc2 : i.kids = [] ∧ sc i.bytes = c := by
      cases d <;> simp only [code, hl, Bool.false_eq_true, if_false] at hc <;> split at hc <;> simp at hc <;> rename_i hk <;> exact ⟨by simpa using hk, hc⟩
    obtain ⟨hk, rfl⟩ := hc2
    have hi : i = ⟨false, i.bytes, []⟩ := by obtain ⟨l, bs, ks⟩ := i; simp_all
    have key : ∃ f, body (sc i.bytes ++ rest) = some (false, f, (sc i.bytes).length) ∧ (sc i.bytes).drop f = i.bytes ∧ 1 ≤ (sc i.bytes).length := by
      unfold sc at hlen ⊢
      cases hba : bare i.bytes with
      | true =>
        rw [if_pos rfl]
        match hq : i.bytes, hba with
        | [x], hba => exact ⟨0, by rw [List.singleton_append]; exact body_bare x rest (by simpa [bare] using hba), rfl, by simp⟩
      | false =>
        rw [hba] at hlen
        simp only [Bool.false_eq_true, if_false] at hlen ⊢
        have hbl : i.bytes.length < 4294967296 := by unfold begun at hlen; rw [List.length_append] at hlen; omega
        have := body_begun false i.bytes rest hbl (fun _ => hba)
        simp only [Bool.false_eq_true, if_false] at this
        have hh := head_le 128 i.bytes.length hbl
        refine ⟨_, by rw [this]; unfold begun; rw [List.length_append], ?_, ?_⟩
        · unfold begun; rw [List.drop_left]
        · unfold begun; rw [List.length_append]; omega
    obtain ⟨f, k1, k2, k3⟩ := key
    refine ⟨?_, k3⟩
    have : read b d (sc i.bytes ++ rest) = some (⟨false, ((sc i.bytes ++ rest).take (sc i.bytes).length).drop f, []⟩, (sc i.bytes).length) := by
      cases d <;> simp only [read] <;> rw [hb _ _ k1]
    rw [this, List.take_left, k2, ← hi]
  intro d
  induction d with
  | zero =>
    intro i c rest hc hlen
    cases hl : i.list with
    | false => exact str 0 i c rest hl hc hlen
    | true => simp [code, hl] at hc
  | succ d ih =>
    intro i c rest hc hlen
    cases hl : i.list with
    | false => exact str (d + 1) i c rest hl hc hlen
    | true =>
      have hbe : i.bytes.isEmpty = true := by
        cases hbe : i.bytes.isEmpty with
        | true => rfl
        | false => simp [code, hl, hbe] at hc
      rw [code_list d i hl hbe] at hc
      obtain ⟨s, hs, rfl⟩ := Option.map_eq_some_iff.1 hc
      have hi : i = ⟨true, [], i.kids⟩ := by
        obtain ⟨l, bs, ks⟩ := i
        simp only [List.isEmpty_iff] at hl hbe
        simp [hl, hbe]
      have hsl : s.length < 4294967296 := by unfold begun at hlen; rw [List.length_append] at hlen; omega
      have hb1 := body_begun true s rest hsl (fun e => by cases e)
      simp only [if_true] at hb1
      have hh := head_le 192 s.length hsl
      have hbl : (begun 192 s).length = (head 192 s.length).length + s.length := by unfold begun; rw [List.length_append]
      refine ⟨?_, by rw [hbl]; omega⟩
      rw [read, hb _ _ hb1]
      have e1 : ((begun 192 s ++ rest).take ((head 192 s.length).length + s.length)).drop (head 192 s.length).length = s := by
        rw [← hbl, List.take_left]
        unfold begun
        rw [List.drop_left]
      simp only
      rw [e1, many_cat (read b d) (code d) i.kids s _ hs (by rw [List.length_append, hbl]; omega) (fun k c rest _ hk hkl => ih k c rest hk (by omega)), hbl, hi]
      rfl
theorem many_some (g : List UInt8 → Option (It × Nat)) (h : It → Option (List UInt8)) : ∀ (f : Nat) (s : List UInt8) (l : List It), many g f s = some l → (∀ s' i n, s'.length ≤ s.length → g s' = some (i, n) → n ≤ s'.length ∧ h i = some (s'.take n)) → cat h l = some s
  | 0, s, l, hm, _ => by
    simp only [many] at hm
    split at hm
    · rename_i e; simp at hm; subst hm e; rfl
    · simp at hm
  | f + 1, s, l, hm, hg => by
    rw [many] at hm
    split at hm
    · rename_i e; simp at hm; subst hm e; rfl
    · cases hgs : g s with
      | none => rw [hgs] at hm; simp at hm
      | some x =>
        obtain ⟨i, n⟩ := x
        rw [hgs] at hm
        simp only at hm
        obtain ⟨t, ht, rfl⟩ := Option.map_eq_some_iff.1 hm
        obtain ⟨h1, h2⟩ := hg s i n (Nat.le_refl _) hgs
        have := many_some g h f (s.drop n) t ht (fun s' i n hl hh => hg s' i n (by rw [List.length_drop] at hl; omega) hh)
        rw [cat, h2, this]
        simp
/-- SOUND: what the strict reader reads is a code -/
theorem read_sound : ∀ (d : Nat) (s : List UInt8) (i : It) (n : Nat), read body d s = some (i, n) → n ≤ s.length ∧ 1 ≤ n ∧ code d i = some (s.take n)
  | d, s, i, n, h => by
    induction d generalizing s i n with
    | zero =>
      simp only [read] at h
      cases hb : body s with
      | none => rw [hb] at h; simp at h
      | some x =>
        obtain ⟨l, f, t⟩ := x
        rw [hb] at h
        cases l with
        | true => simp at h
        | false =>
          simp only [Option.some.injEq, Prod.mk.injEq] at h
          obtain ⟨rfl, rfl⟩ := h
          obtain ⟨h1, h2, h3, h4, _⟩ := body_some s false f t hb
          refine ⟨h2, h3, ?_⟩
          simp [code]
          exact (h4 rfl).symm
    | succ d ih =>
      simp only [read] at h
      cases hb : body s with
      | none => rw [hb] at h; simp at h
      | some x =>
        obtain ⟨l, f, t⟩ := x
        rw [hb] at h
        obtain ⟨h1, h2, h3, h4, h5⟩ := body_some s l f t hb
        cases l with
        | false =>
          simp only [Option.some.injEq, Prod.mk.injEq] at h
          obtain ⟨rfl, rfl⟩ := h
          refine ⟨h2, h3, ?_⟩
          simp [code]
          exact (h4 rfl).symm
        | true =>
          simp only at h
          obtain ⟨ks, hm, hx⟩ := Option.map_eq_some_iff.1 h
          simp only [Prod.mk.injEq] at hx
          obtain ⟨rfl, rfl⟩ := hx
          have hcat := many_some (read body d) (code d) _ _ ks hm (fun s' i n _ hr => by have := ih s' i n hr; exact ⟨this.1, this.2.2⟩)
          refine ⟨h2, h3, ?_⟩
          rw [code_list d _ rfl rfl]
          simp only
          rw [hcat]
          exact congrArg some (h5 rfl).symm

/- THE READER THAT IS NOT STRICT -/
def rb (s : List UInt8) : Option (Bool × Nat × Nat) :=
  match s with
  | [] => none
  | c :: _ =>
    if c.toNat < 128 then some (false, 0, 1)
    else if c.toNat - (if 192 ≤ c.toNat then 192 else 128) ≤ 55 then
      (if s.length < 1 + (c.toNat - (if 192 ≤ c.toNat then 192 else 128)) then none else some (decide (192 ≤ c.toNat), 1, 1 + (c.toNat - (if 192 ≤ c.toNat then 192 else 128))))
    else if 4 < c.toNat - (if 192 ≤ c.toNat then 192 else 128) - 55 ∨ s.length < 1 + (c.toNat - (if 192 ≤ c.toNat then 192 else 128) - 55) then none
    else if s.length < 1 + (c.toNat - (if 192 ≤ c.toNat then 192 else 128) - 55) + val ((s.take (1 + (c.toNat - (if 192 ≤ c.toNat then 192 else 128) - 55))).drop 1) 0 then none
    else some (decide (192 ≤ c.toNat), 1 + (c.toNat - (if 192 ≤ c.toNat then 192 else 128) - 55), 1 + (c.toNat - (if 192 ≤ c.toNat then 192 else 128) - 55) + val ((s.take (1 + (c.toNat - (if 192 ≤ c.toNat then 192 else 128) - 55))).drop 1) 0)
theorem rb_of_body (s : List UInt8) (x : Bool × Nat × Nat) (h : body s = some x) : rb s = some x := by
  cases s with
  | nil => simp [body] at h
  | cons c r =>
    have hc := c.toNat_lt
    simp only [body] at h
    simp only [rb]
    have near : ∀ (l : Bool) (b0 : Nat), (if 192 ≤ c.toNat then 192 else 128) = b0 → decide (192 ≤ c.toNat) = l → c.toNat - b0 ≤ 55 → chk l (c :: r) 1 (c.toNat - b0) = some x → ¬ c.toNat < 128 → (if c.toNat < 128 then some (false, 0, 1)
        else if c.toNat - (if 192 ≤ c.toNat then 192 else 128) ≤ 55 then
      (if (c :: r).length < 1 + (c.toNat - (if 192 ≤ c.toNat then 192 else 128)) then none else some (decide (192 ≤ c.toNat), 1, 1 + (c.toNat - (if 192 ≤ c.toNat then 192 else 128))))
    else if 4 < c.toNat - (if 192 ≤ c.toNat then 192 else 128) - 55 ∨ (c :: r).length < 1 + (c.toNat - (if 192 ≤ c.toNat then 192 else 128) - 55) then none
    else if (c :: r).length < 1 + (c.toNat - (if 192 ≤ c.toNat then 192 else 128) - 55) + val (((c :: r).take (1 + (c.toNat - (if 192 ≤ c.toNat then 192 else 128) - 55))).drop 1) 0 then none
    else some (decide (192 ≤ c.toNat), 1 + (c.toNat - (if 192 ≤ c.toNat then 192 else 128) - 55), 1 + (c.toNat - (if 192 ≤ c.toNat then 192 else 128) - 55) + val (((c :: r).take (1 + (c.toNat - (if 192 ≤ c.toNat then 192 else 128) - 55))).drop 1) 0)) = some x := by
      intro l b0 e1 e2 h1 h2 h3
      obtain ⟨hx, hn, _⟩ := chk_some h2
      rw [if_neg h3, e1, e2, if_pos h1, if_neg (by simp only [List.length_cons] at hn ⊢; omega), hx]
    have longer : ∀ (l : Bool) (b0 : Nat), (if 192 ≤ c.toNat then 192 else 128) = b0 → decide (192 ≤ c.toNat) = l → 55 < c.toNat - b0 → c.toNat - b0 ≤ 59 → far l (c :: r) (1 + (c.toNat - b0 - 55)) = some x → ¬ c.toNat < 128 → (if c.toNat < 128 then some (false, 0, 1)
        else if c.toNat - (if 192 ≤ c.toNat then 192 else 128) ≤ 55 then
      (if (c :: r).length < 1 + (c.toNat - (if 192 ≤ c.toNat then 192 else 128)) then none else some (decide (192 ≤ c.toNat), 1, 1 + (c.toNat - (if 192 ≤ c.toNat then 192 else 128))))
    else if 4 < c.toNat - (if 192 ≤ c.toNat then 192 else 128) - 55 ∨ (c :: r).length < 1 + (c.toNat - (if 192 ≤ c.toNat then 192 else 128) - 55) then none
    else if (c :: r).length < 1 + (c.toNat - (if 192 ≤ c.toNat then 192 else 128) - 55) + val (((c :: r).take (1 + (c.toNat - (if 192 ≤ c.toNat then 192 else 128) - 55))).drop 1) 0 then none
    else some (decide (192 ≤ c.toNat), 1 + (c.toNat - (if 192 ≤ c.toNat then 192 else 128) - 55), 1 + (c.toNat - (if 192 ≤ c.toNat then 192 else 128) - 55) + val (((c :: r).take (1 + (c.toNat - (if 192 ≤ c.toNat then 192 else 128) - 55))).drop 1) 0)) = some x := by
      intro l b0 e1 e2 h1 h1' h2 h3
      unfold far at h2
      split at h2
      · simp at h2
      · rename_i hg
        split at h2
        · simp at h2
        · obtain ⟨hx, hn, _⟩ := chk_some h2
          rw [if_neg h3, e1, e2, if_neg (by omega), if_neg (by omega), if_neg (by omega), hx]
    split at h
    · rename_i h128; rw [if_pos h128]; exact h
    · rename_i h128
      split at h
      · exact near false 128 (if_neg (by omega)) (decide_eq_false (by omega)) (by omega) h h128
      · split at h
        · exact longer false 128 (if_neg (by omega)) (decide_eq_false (by omega)) (by omega) (by omega) (by rw [show c.toNat - 128 - 55 = c.toNat - 183 from by omega]; exact h) h128
        · split at h
          · simp at h
          · split at h
            · exact near true 192 (if_pos (by omega)) (decide_eq_true (by omega)) (by omega) h h128
            · split at h
              · exact longer true 192 (if_pos (by omega)) (decide_eq_true (by omega)) (by omega) (by omega) (by rw [show c.toNat - 192 - 55 = c.toNat - 247 from by omega]; exact h) h128
              · simp at h
/-- what the document's answer reads: as it stands there, if it is written just so -/
def readRef (d : Nat) (s : List UInt8) : Option (It × Nat) :=
  match read rb d s with
  | none => none
  | some (i, n) => if code 8 i = some (s.take n) then some (i, n) else none
/-- THE TWO READERS ARE ONE -/
theorem read_ref (d : Nat) (hd : 8 ≤ d) (s : List UInt8) (hs : s.length < 4294967296) (hn : ∀ i n, read rb d s = some (i, n) → n ≤ s.length) : readRef d s = read body 8 s := by
  cases hr : read body 8 s with
  | some x =>
    obtain ⟨i, n⟩ := x
    obtain ⟨h1, h2, h3⟩ := read_sound 8 s i n hr
    have hl : (s.take n).length = n := by simp; omega
    have h4 : code d i = some (s.take n) := by
      have := code_mono i _ (d - 8) 8 h3
      rw [show 8 + (d - 8) = d from by omega] at this
      exact this
    have := (read_code rb rb_of_body d i (s.take n) (s.drop n) h4 (by omega)).1
    rw [List.take_append_drop, hl] at this
    unfold readRef
    rw [this]
    simp only
    rw [if_pos h3]
  | none =>
    unfold readRef
    cases hq : read rb d s with
    | none => rfl
    | some x =>
      obtain ⟨i, n⟩ := x
      simp only
      split
      · rename_i h3
        have hnl := hn i n hq
        have hl : (s.take n).length = n := by simp; omega
        have := (read_code body (fun _ _ h => h) 8 i (s.take n) (s.drop n) h3 (by omega)).1
        rw [List.take_append_drop, hr] at this
        simp at this
      · rfl
end Go.Proofs.YtpibpdpedjinhaaDoor.Im
