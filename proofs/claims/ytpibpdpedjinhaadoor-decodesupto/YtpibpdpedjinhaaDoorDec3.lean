/- Plain mathematics of reading codes of items one by one, and of how great is what was read. No program is named here. -/
import Derived.Test.YtpibpdpedjinhaaDoorDec2
namespace Go.Proofs.YtpibpdpedjinhaaDoor.Im

/-- these items have been read, up to this place -/
inductive Eats (g : List UInt8 → Option (It × Nat)) (s : List UInt8) : List It → Nat → Prop
  | nil : Eats g s [] 0
  | snoc {l : List It} {p : Nat} {i : It} {n : Nat} : Eats g s l p → p < s.length → g (s.drop p) = some (i, n) → Eats g s (l ++ [i]) (p + n)
/-- a reader goes on, and not too far -/
def Fair (g : List UInt8 → Option (It × Nat)) : Prop := ∀ s i n, g s = some (i, n) → 1 ≤ n ∧ n ≤ s.length
theorem Eats.le {g : List UInt8 → Option (It × Nat)} {s : List UInt8} (hg : Fair g) {l : List It} {p : Nat} (h : Eats g s l p) : p ≤ s.length ∧ l.length ≤ p := by
  induction h with
  | nil => exact ⟨Nat.zero_le _, Nat.le_refl _⟩
  | snoc h hp hgs ih =>
    have := hg _ _ _ hgs
    rw [List.length_drop] at this
    simp only [List.length_append, List.length_cons, List.length_nil]
    omega
theorem Eats.many {g : List UInt8 → Option (It × Nat)} {s : List UInt8} {l : List It} {p : Nat} (h : Eats g s l p) : ∀ f, l.length ≤ f → Im.many g f s = (Im.many g (f - l.length) (s.drop p)).map (fun r => l ++ r) := by
  induction h with
  | nil => intro f _; simp
  | @snoc l p i n h hp hgs ih =>
    intro f hf
    simp only [List.length_append, List.length_cons, List.length_nil] at hf ⊢
    rw [ih f (by omega)]
    obtain ⟨f', hf'⟩ : ∃ f', f - l.length = f' + 1 := ⟨f - l.length - 1, by omega⟩
    have hne : s.drop p ≠ [] := by intro e; have := congrArg List.length e; simp at this; omega
    rw [hf', Im.many, if_neg hne, hgs]
    simp only
    rw [show f - (l.length + (0 + 1)) = f' from by omega, List.drop_drop]
    cases Im.many g f' (s.drop (p + n)) <;> simp
theorem Eats.all {g : List UInt8 → Option (It × Nat)} (hg : Fair g) {s : List UInt8} {l : List It} {p : Nat} (h : Eats g s l p) (f : Nat) (hf : s.length ≤ f) (hp : s.length ≤ p) : Im.many g f s = some l := by
  have := h.le hg
  rw [h.many f (by omega), List.drop_of_length_le hp, many_nil]
  simp
theorem Eats.stuck {g : List UInt8 → Option (It × Nat)} (hg : Fair g) {s : List UInt8} {l : List It} {p : Nat} (h : Eats g s l p) (f : Nat) (hf : s.length ≤ f) (hp : p < s.length) (hn : g (s.drop p) = none) : Im.many g f s = none := by
  have := h.le hg
  rw [h.many f (by omega)]
  obtain ⟨f', hf'⟩ : ∃ f', f - l.length = f' + 1 := ⟨f - l.length - 1, by omega⟩
  have hne : s.drop p ≠ [] := by intro e; have := congrArg List.length e; simp at this; omega
  rw [hf', Im.many, if_neg hne, hn]
  rfl
theorem many_eats (g : List UInt8 → Option (It × Nat)) : ∀ (f : Nat) (s : List UInt8) (l : List It), Im.many g f s = some l → Fair g → ∀ (h : It → Nat), (∀ s' i n, g s' = some (i, n) → h i ≤ 2 * n) → (l.map h).sum ≤ 2 * s.length
  | 0, s, l, hm, _, h, _ => by
    simp only [Im.many] at hm
    split at hm
    · simp at hm; subst hm; simp
    · simp at hm
  | f + 1, s, l, hm, hg, h, hh => by
    rw [Im.many] at hm
    split at hm
    · simp at hm; subst hm; simp
    · cases hgs : g s with
      | none => rw [hgs] at hm; simp at hm
      | some x =>
        obtain ⟨i, n⟩ := x
        rw [hgs] at hm
        simp only at hm
        obtain ⟨t, ht, rfl⟩ := Option.map_eq_some_iff.1 hm
        have h1 := hg s i n hgs
        have h2 := many_eats g f (s.drop n) t ht hg h hh
        have h3 := hh s i n hgs
        rw [List.length_drop] at h2
        simp only [List.map_cons, List.sum_cons]
        omega
theorem many_mem (g : List UInt8 → Option (It × Nat)) : ∀ (f : Nat) (s : List UInt8) (l : List It), Im.many g f s = some l → ∀ k, k ∈ l → ∃ s' n, g s' = some (k, n)
  | 0, s, l, hm, k, hk => by
    simp only [Im.many] at hm
    split at hm
    · simp at hm; subst hm; simp at hk
    · simp at hm
  | f + 1, s, l, hm, k, hk => by
    rw [Im.many] at hm
    split at hm
    · simp at hm; subst hm; simp at hk
    · cases hgs : g s with
      | none => rw [hgs] at hm; simp at hm
      | some x =>
        obtain ⟨i, n⟩ := x
        rw [hgs] at hm
        simp only at hm
        obtain ⟨t, ht, rfl⟩ := Option.map_eq_some_iff.1 hm
        rcases List.mem_cons.1 hk with rfl | hk
        · exact ⟨s, n, hgs⟩
        · exact many_mem g f _ t ht k hk
theorem many_mono (g g' : List UInt8 → Option (It × Nat)) (hg : ∀ s x, g s = some x → g' s = some x) : ∀ (f : Nat) (s : List UInt8) (l : List It), Im.many g f s = some l → Im.many g' f s = some l
  | 0, s, l, hm => hm
  | f + 1, s, l, hm => by
    rw [Im.many] at hm ⊢
    split at hm
    · rename_i e; rw [if_pos e]; exact hm
    · rename_i e
      rw [if_neg e]
      cases hgs : g s with
      | none => rw [hgs] at hm; simp at hm
      | some x =>
        obtain ⟨i, n⟩ := x
        rw [hgs] at hm
        simp only at hm
        obtain ⟨t, ht, rfl⟩ := Option.map_eq_some_iff.1 hm
        rw [hg s _ hgs]
        simp only
        rw [many_mono g g' hg f _ t ht]
        rfl

/-- the reader that has lists at its last step too, if they are empty -/
def read2 (b : List UInt8 → Option (Bool × Nat × Nat)) : Nat → List UInt8 → Option (It × Nat)
  | 0, _ => none
  | d + 1, s => match b s with
    | none => none
    | some (false, f, t) => some (⟨false, (s.take t).drop f, []⟩, t)
    | some (true, f, t) => (many (read2 b d) s.length ((s.take t).drop f)).map (fun l => (⟨true, [], l⟩, t))
theorem read2_str {b : List UInt8 → Option (Bool × Nat × Nat)} {d : Nat} {s : List UInt8} {f t : Nat} (h : b s = some (false, f, t)) : read2 b (d + 1) s = some (⟨false, (s.take t).drop f, []⟩, t) := by rw [read2, h]
theorem read2_list {b : List UInt8 → Option (Bool × Nat × Nat)} {d : Nat} {s : List UInt8} {f t : Nat} (h : b s = some (true, f, t)) : read2 b (d + 1) s = (many (read2 b d) s.length ((s.take t).drop f)).map (fun l => (⟨true, [], l⟩, t)) := by rw [read2, h]
theorem read2_none {b : List UInt8 → Option (Bool × Nat × Nat)} {d : Nat} {s : List UInt8} (h : b s = none) : read2 b (d + 1) s = none := by rw [read2, h]
theorem read_str {b : List UInt8 → Option (Bool × Nat × Nat)} {d : Nat} {s : List UInt8} {f t : Nat} (h : b s = some (false, f, t)) : read b d s = some (⟨false, (s.take t).drop f, []⟩, t) := by cases d <;> rw [read, h]
theorem read_list {b : List UInt8 → Option (Bool × Nat × Nat)} {d : Nat} {s : List UInt8} {f t : Nat} (h : b s = some (true, f, t)) : read b (d + 1) s = (many (read b d) s.length ((s.take t).drop f)).map (fun l => (⟨true, [], l⟩, t)) := by rw [read, h]
theorem read_list0 {b : List UInt8 → Option (Bool × Nat × Nat)} {s : List UInt8} {f t : Nat} (h : b s = some (true, f, t)) : read b 0 s = none := by rw [read, h]
theorem read_none {b : List UInt8 → Option (Bool × Nat × Nat)} {d : Nat} {s : List UInt8} (h : b s = none) : read b d s = none := by cases d <;> rw [read, h]
theorem read_read2 (b : List UInt8 → Option (Bool × Nat × Nat)) : ∀ (d : Nat) (s : List UInt8) (x : It × Nat), read b d s = some x → read2 b (d + 1) s = some x := by
  intro d
  induction d with
  | zero =>
    intro s x h
    cases hb : b s with
    | none => rw [read_none hb] at h; simp at h
    | some y =>
      obtain ⟨l, f, t⟩ := y
      cases l with
      | true => rw [read_list0 hb] at h; simp at h
      | false => rw [read_str hb] at h; rw [read2_str hb]; exact h
  | succ d ih =>
    intro s x h
    cases hb : b s with
    | none => rw [read_none hb] at h; simp at h
    | some y =>
      obtain ⟨l, f, t⟩ := y
      cases l with
      | false => rw [read_str hb] at h; rw [read2_str hb]; exact h
      | true =>
        rw [read_list hb] at h
        obtain ⟨ks, hm, rfl⟩ := Option.map_eq_some_iff.1 h
        rw [read2_list hb, many_mono (read b d) (read2 b (d + 1)) ih _ _ _ hm]
        rfl
/-- where a body stands, it stands within -/
def Body (b : List UInt8 → Option (Bool × Nat × Nat)) : Prop := ∀ s l f t, b s = some (l, f, t) → f ≤ t ∧ t ≤ s.length ∧ 1 ≤ t ∧ (l = true → 1 ≤ f)
theorem read2_fair {b : List UInt8 → Option (Bool × Nat × Nat)} (hb : Body b) (d : Nat) : Fair (read2 b d) := by
  intro s i n h
  cases d with
  | zero => simp [read2] at h
  | succ d =>
    cases hbs : b s with
    | none => rw [read2_none hbs] at h; simp at h
    | some y =>
      obtain ⟨l, f, t⟩ := y
      have := hb s l f t hbs
      cases l with
      | false => rw [read2_str hbs] at h; simp at h; omega
      | true =>
        rw [read2_list hbs] at h
        obtain ⟨ks, hm, hx⟩ := Option.map_eq_some_iff.1 h
        simp at hx
        omega
theorem read_fair {b : List UInt8 → Option (Bool × Nat × Nat)} (hb : Body b) (d : Nat) : Fair (read b d) := fun s i n h => read2_fair hb (d + 1) s i n (read_read2 b d s _ h)
/-- what is read is not much greater than what it is read from -/
theorem read2_wt {b : List UInt8 → Option (Bool × Nat × Nat)} (hb : Body b) : ∀ (d : Nat) (s : List UInt8) (i : It) (n : Nat), read2 b d s = some (i, n) → dp d i ∧ wt d i ≤ 2 * n
  | 0, s, i, n, h => by simp [read2] at h
  | d + 1, s, i, n, h => by
    cases hbs : b s with
    | none => rw [read2_none hbs] at h; simp at h
    | some y =>
      obtain ⟨l, f, t⟩ := y
      have hq := hb s l f t hbs
      cases l with
      | false =>
        rw [read2_str hbs] at h
        simp only [Option.some.injEq, Prod.mk.injEq] at h
        obtain ⟨rfl, rfl⟩ := h
        refine ⟨fun k hk => by simp at hk, ?_⟩
        simp only [wt, List.map_nil, List.sum_nil, List.length_drop, List.length_take]
        omega
      | true =>
        rw [read2_list hbs] at h
        obtain ⟨ks, hm, hx⟩ := Option.map_eq_some_iff.1 h
        simp only [Prod.mk.injEq] at hx
        obtain ⟨rfl, rfl⟩ := hx
        refine ⟨fun k hk => ?_, ?_⟩
        · obtain ⟨s', n', hk'⟩ := many_mem _ _ _ _ hm k hk
          exact (read2_wt hb d s' k n' hk').1
        · have := many_eats _ _ _ _ hm (read2_fair hb d) (wt d) (fun s' i n h => (read2_wt hb d s' i n h).2)
          simp only [List.length_drop, List.length_take] at this
          have := hq.2.2.2 rfl
          simp only [wt, List.length_nil]
          omega
theorem read_wt {b : List UInt8 → Option (Bool × Nat × Nat)} (hb : Body b) (d : Nat) (s : List UInt8) (i : It) (n : Nat) (h : read b d s = some (i, n)) : dp (d + 1) i ∧ wt (d + 1) i ≤ 2 * n := read2_wt hb (d + 1) s i n (read_read2 b d s _ h)
theorem rb_body : Body rb := by
  intro s l f t h
  cases s with
  | nil => simp [rb] at h
  | cons c r =>
    have hc := c.toNat_lt
    simp only [rb] at h
    generalize (if 192 ≤ c.toNat then 192 else 128) = B0 at h
    split at h
    · simp only [Option.some.injEq, Prod.mk.injEq] at h
      obtain ⟨rfl, rfl, rfl⟩ := h
      simp
    · split at h
      · split at h
        · simp at h
        · rename_i hh
          simp only [Option.some.injEq, Prod.mk.injEq] at h
          obtain ⟨_, rfl, rfl⟩ := h
          exact ⟨by omega, by omega, by omega, fun _ => by omega⟩
      · split at h
        · simp at h
        · split at h
          · simp at h
          · rename_i hh
            simp only [Option.some.injEq, Prod.mk.injEq] at h
            obtain ⟨_, rfl, rfl⟩ := h
            exact ⟨by omega, by omega, by omega, fun _ => by omega⟩
theorem body_body : Body body := fun s l f t h => rb_body s l f t (rb_of_body s _ h)
/-- what the document's answer reads -/
def readDoc (s : List UInt8) : Option (It × Nat) :=
  match read2 rb 10 s with
  | none => none
  | some (i, n) => if code 8 i = some (s.take n) then some (i, n) else none
theorem readDoc_eq (s : List UInt8) (hs : s.length < 4294967296) : readDoc s = read body 8 s := by
  cases hr : read body 8 s with
  | some x =>
    obtain ⟨i, n⟩ := x
    obtain ⟨h1, h2, h3⟩ := read_sound 8 s i n hr
    have hl : (s.take n).length = n := by simp; omega
    have h4 : code 9 i = some (s.take n) := code_mono i _ 1 8 h3
    have := (read_code rb rb_of_body 9 i (s.take n) (s.drop n) h4 (by omega)).1
    rw [List.take_append_drop, hl] at this
    unfold readDoc
    rw [read_read2 rb 9 s _ this]
    simp only
    rw [if_pos h3]
  | none =>
    unfold readDoc
    cases hq : read2 rb 10 s with
    | none => rfl
    | some x =>
      obtain ⟨i, n⟩ := x
      simp only
      split
      · rename_i h3
        have hnl := (read2_fair rb_body 10 s i n hq).2
        have hl : (s.take n).length = n := by simp; omega
        have := (read_code body (fun _ _ h => h) 8 i (s.take n) (s.drop n) h3 (by omega)).1
        rw [List.take_append_drop, hr] at this
        simp at this
      · rfl
theorem dp_up : ∀ (n : Nat) (i : It), dp n i → dp (n + 1) i
  | 0, _, h => by cases h
  | n + 1, i, h => fun k hk => dp_up n k (h k hk)
theorem wt_up : ∀ (n : Nat) (i : It), dp n i → wt (n + 1) i = wt n i
  | 0, _, h => by cases h
  | n + 1, i, h => by
    have : i.kids.map (wt (n + 1)) = i.kids.map (wt n) := List.map_congr_left (fun k hk => wt_up n k (h k hk))
    rw [wt, wt, this]
theorem wt_any (n : Nat) (i : It) (h : dp n i) : ∀ m : Nat, dp (n + m) i ∧ wt (n + m) i = wt n i
  | 0 => ⟨h, rfl⟩
  | m + 1 => by
    obtain ⟨h1, h2⟩ := wt_any n i h m
    exact ⟨dp_up _ i h1, (wt_up _ i h1).trans h2⟩
end Go.Proofs.YtpibpdpedjinhaaDoor.Im
