/- Plain mathematics of squeezed bytes: what Spread gives, that the plans of Squeeze stand for the bytes, and that they and the table of Least both are the fewest bytes. No program is named here. -/
import Init
namespace Go.Proofs.YtpibpdpedjinhaaDoor.Sq

/-- how many bytes at the head are the same one -/
def same : List UInt8 → Nat
  | [] => 0
  | [_] => 1
  | x :: y :: r => if x = y then same (y :: r) + 1 else 1

theorem same_pos (x : UInt8) (r : List UInt8) : 1 ≤ same (x :: r) := by
  cases r with
  | nil => simp [same]
  | cons y r => simp only [same]; split <;> omega

theorem same_le : ∀ s : List UInt8, same s ≤ s.length
  | [] => by simp [same]
  | [_] => by simp [same]
  | x :: y :: r => by
    have := same_le (y :: r)
    simp only [same, List.length_cons] at *
    split <;> omega

/-- the first k bytes are x just where the run is that long -/
theorem same_take : ∀ (k : Nat) (x : UInt8) (r : List UInt8), k ≤ same (x :: r) → (x :: r).take k = List.replicate k x
  | 0, _, _, _ => by simp
  | 1, _, _, _ => by simp
  | k + 2, x, r, h => by
    cases r with
    | nil => simp [same] at h
    | cons y r =>
      simp only [same] at h
      split at h
      · rename_i e
        subst e
        have := same_take (k + 1) x r (by omega)
        rw [List.take_succ_cons, this]
        rfl
      · omega

theorem same_of_replicate : ∀ (k : Nat) (x : UInt8) (t : List UInt8), 1 ≤ k → k ≤ same (List.replicate k x ++ t)
  | 0, _, _, h => by omega
  | 1, x, t, _ => by
    show 1 ≤ same (x :: t)
    exact same_pos x t
  | k + 2, x, t, _ => by
    have := same_of_replicate (k + 1) x t (by omega)
    show k + 2 ≤ same (x :: x :: (List.replicate k x ++ t))
    have e : same (x :: x :: (List.replicate k x ++ t)) = same (x :: (List.replicate k x ++ t)) + 1 := by simp [same]
    have e2 : List.replicate (k + 1) x ++ t = x :: (List.replicate k x ++ t) := rfl
    rw [e2] at this
    omega

/-- the best way from a place on -/
structure Plan where
  cost : Nat
  run : Bool
  size : Nat

def nought : Plan := ⟨0, false, 0⟩

def withByte (p : Plan) : Plan :=
  if p.run = true ∨ p.size = 0 ∨ p.size = 128 then ⟨p.cost + 2, false, 1⟩ else ⟨p.cost + 1, false, p.size + 1⟩

/-- the best plan for a byte ahead of r, out of those of r and all behind it -/
def best (m : Nat) (T : List Plan) : Plan :=
  if 2 ≤ m ∧ (T.getD (min m 128 - 1) nought).cost + 2 < (withByte (T.getD 0 nought)).cost then ⟨(T.getD (min m 128 - 1) nought).cost + 2, true, min m 128⟩ else withByte (T.getD 0 nought)

def tab : List UInt8 → List Plan
  | [] => [nought]
  | x :: r => best (same (x :: r)) (tab r) :: tab r

def plan (s : List UInt8) : Plan := (tab s).getD 0 nought

theorem tab_length : ∀ s : List UInt8, (tab s).length = s.length + 1
  | [] => rfl
  | _ :: r => by simp [tab, tab_length r]

theorem tab_drop : ∀ (k : Nat) (s : List UInt8), k ≤ s.length → (tab s).getD k nought = plan (s.drop k)
  | 0, s, _ => by simp [plan]
  | k + 1, [], h => by simp at h
  | k + 1, x :: r, h => by
    simp only [tab, List.getD_cons_succ, List.drop_succ_cons]
    exact tab_drop k r (by simpa using h)

theorem plan_nil : plan [] = nought := rfl
theorem plan_cons (x : UInt8) (r : List UInt8) : plan (x :: r) =
    if 2 ≤ same (x :: r) ∧ (plan ((x :: r).drop (min (same (x :: r)) 128))).cost + 2 < (withByte (plan r)).cost then ⟨(plan ((x :: r).drop (min (same (x :: r)) 128))).cost + 2, true, min (same (x :: r)) 128⟩ else withByte (plan r) := by
  have hl := same_le (x :: r)
  have hp := same_pos x r
  have e : (tab r).getD (min (same (x :: r)) 128 - 1) nought = plan ((x :: r).drop (min (same (x :: r)) 128)) := by
    rw [tab_drop _ _ (by simp only [List.length_cons] at hl; omega)]
    obtain ⟨j, hj⟩ : ∃ j, min (same (x :: r)) 128 = j + 1 := ⟨min (same (x :: r)) 128 - 1, by omega⟩
    rw [hj]
    rfl
  show best (same (x :: r)) (tab r) = _
  unfold best
  rw [e]
  rfl

theorem withByte_cost (p : Plan) : p.cost + 1 ≤ (withByte p).cost ∧ (withByte p).cost ≤ p.cost + 2 := by
  unfold withByte
  split <;> simp
theorem withByte_run (p : Plan) : (withByte p).run = false := by
  unfold withByte
  split <;> rfl
theorem plan_le_with (x : UInt8) (r : List UInt8) : (plan (x :: r)).cost ≤ (withByte (plan r)).cost := by
  rw [plan_cons]
  split
  · rename_i h; simp only; omega
  · exact Nat.le_refl _
theorem plan_le_run (x : UInt8) (r : List UInt8) (h : 2 ≤ same (x :: r)) : (plan (x :: r)).cost ≤ (plan ((x :: r).drop (min (same (x :: r)) 128))).cost + 2 := by
  rw [plan_cons]
  split
  · exact Nat.le_refl _
  · rename_i g
    have := fun z => g ⟨h, z⟩
    omega

theorem same_cons_ge (x : UInt8) (r : List UInt8) (h : 2 ≤ same (x :: r)) : ∃ y t, r = y :: t ∧ x = y ∧ same (x :: r) = same r + 1 := by
  cases r with
  | nil => simp [same] at h
  | cons y t =>
    refine ⟨y, t, rfl, ?_⟩
    simp only [same] at h ⊢
    split at h
    · rename_i e; rw [if_pos e]; exact ⟨e, rfl⟩
    · omega

/-- fewer bytes never cost more -/
theorem mono_to : ∀ (n : Nat) (s : List UInt8), s.length ≤ n → ∀ k : Nat, (plan (s.drop k)).cost ≤ (plan s).cost
  | _, [], _, k => by simp
  | _, _ :: _, _, 0 => by simp
  | 0, _ :: _, h, _ => by simp at h
  | n + 1, x :: r, h, k + 1 => by
    have ih := mono_to n
    have hrn : r.length ≤ n := by simpa using h
    rw [List.drop_succ_cons]
    refine Nat.le_trans (ih r hrn k) ?_
    have hw := withByte_cost (plan r)
    rw [plan_cons x r]
    split
    · rename_i h
      obtain ⟨h2, _⟩ := h
      obtain ⟨y, t, e1, e2, e3⟩ := same_cons_ge x r h2
      simp only
      obtain ⟨j, hj⟩ : ∃ j, min (same (x :: r)) 128 = j + 1 := ⟨min (same (x :: r)) 128 - 1, by omega⟩
      rw [hj, List.drop_succ_cons]
      by_cases h3 : 2 ≤ same r
      · have g : (plan r).cost ≤ (plan (r.drop (min (same r) 128))).cost + 2 := by
          rw [e1] at h3 ⊢
          exact plan_le_run y t h3
        obtain ⟨d, hd⟩ : ∃ d, min (same r) 128 = j + d := ⟨min (same r) 128 - j, by omega⟩
        have m2 : (plan (r.drop (min (same r) 128))).cost ≤ (plan (r.drop j)).cost := by
          rw [hd, ← List.drop_drop]
          exact ih (r.drop j) (by simp; omega) d
        omega
      · have : j = 1 := by
          have := same_pos y t
          rw [← e1] at this
          omega
        subst this
        have h4 := plan_le_with y t
        have h5 := withByte_cost (plan t)
        rw [e1]
        simp only [List.drop_succ_cons, List.drop_zero]
        omega
    · omega
theorem mono (s : List UInt8) (k : Nat) : (plan (s.drop k)).cost ≤ (plan s).cost := mono_to s.length s (Nat.le_refl _) k

theorem take_all {s : List UInt8} {k : Nat} : (s.take k).length = min k s.length := List.length_take

/-- WHAT A PLAN IS: its first piece, and what the rest costs -/
theorem plan_is : ∀ (x : UInt8) (r : List UInt8), 1 ≤ (plan (x :: r)).size ∧ (plan (x :: r)).size ≤ 128 ∧ (plan (x :: r)).size ≤ r.length + 1 ∧
    ((plan (x :: r)).run = true → 2 ≤ (plan (x :: r)).size ∧ (plan (x :: r)).size ≤ same (x :: r) ∧ (plan (x :: r)).cost = 2 + (plan ((x :: r).drop (plan (x :: r)).size)).cost) ∧
    ((plan (x :: r)).run = false → (plan (x :: r)).cost = 1 + (plan (x :: r)).size + (plan ((x :: r).drop (plan (x :: r)).size)).cost)
  | x, [] => by
    have e : plan [x] = ⟨2, false, 1⟩ := by simp [plan, tab, best, same, withByte, nought]
    rw [e]
    simp [plan, tab, nought]
  | x, y :: t => by
    have ih := plan_is y t
    have hl := same_le (x :: y :: t)
    have hp := same_pos x (y :: t)
    simp only [List.length_cons] at hl ⊢
    rw [plan_cons x (y :: t)]
    split
    · rename_i h
      simp only [Bool.true_eq_false, false_implies, and_true, true_implies]
      omega
    · unfold withByte
      split
      · simp only [List.drop_succ_cons, List.drop_zero, Bool.false_eq_true, false_implies, true_and, true_implies]
        omega
      · rename_i h
        simp only [not_or] at h
        obtain ⟨i1, i2, i3, i4, i5⟩ := ih
        have h0 : (plan (y :: t)).run = false := by simpa using h.1
        have := i5 h0
        simp only [List.drop_succ_cons, Bool.false_eq_true, false_implies, true_and, true_implies]
        omega

/- DECOMPOSITIONS -/
def fits (p : Bool × List UInt8) : Prop := 1 ≤ p.2.length ∧ p.2.length ≤ 128 ∧ (p.1 = true → 2 ≤ p.2.length ∧ ∃ x, p.2 = List.replicate p.2.length x)
def pcost (p : Bool × List UInt8) : Nat := if p.1 = true then 2 else p.2.length + 1
def total : List (Bool × List UInt8) → Nat
  | [] => 0
  | p :: l => pcost p + total l
def joined : List (Bool × List UInt8) → List UInt8
  | [] => []
  | p :: l => p.2 ++ joined l

/-- LOWER BOUND, and what the plan's first piece is where nothing is cheaper -/
theorem plan_least : ∀ (n : Nat) (l : List (Bool × List UInt8)), (joined l).length ≤ n → (∀ p, p ∈ l → fits p) →
    (plan (joined l)).cost ≤ total l ∧ (∀ b r, l = (false, b) :: r → b.length < 128 → total l = (plan (joined l)).cost → (plan (joined l)).run = false ∧ (plan (joined l)).size ≤ b.length)
  | _, [], _, _ => ⟨by simp [joined, plan_nil, nought], by simp⟩
  | n, (true, b) :: l, hn, hf => by
    refine ⟨?_, by simp⟩
    obtain ⟨h1, h2, h3⟩ := hf (true, b) (List.mem_cons_self ..)
    obtain ⟨h4, x, h5⟩ := h3 rfl
    simp only at h1 h2 h4 h5
    have hl : (joined l).length ≤ n - 1 ∧ 1 ≤ n := by
      simp only [joined, List.length_append] at hn
      omega
    obtain ⟨n', rfl⟩ : ∃ n', n = n' + 1 := ⟨n - 1, by omega⟩
    have ih := (plan_least n' l (by omega) (fun p hp => hf p (List.mem_cons_of_mem _ hp))).1
    have hs := same_of_replicate b.length x (joined l) h1
    rw [← h5] at hs
    simp only [joined, total, pcost, if_true]
    obtain ⟨y, t, hy⟩ : ∃ y t, b ++ joined l = y :: t := by
      cases b with
      | nil => simp at h1
      | cons y t => exact ⟨y, t ++ joined l, rfl⟩
    have hr := plan_le_run y t (by rw [← hy]; omega)
    rw [← hy] at hr
    have hd : (b ++ joined l).drop b.length = joined l := by simp
    obtain ⟨d, hd2⟩ : ∃ d, min (same (b ++ joined l)) 128 = b.length + d := ⟨min (same (b ++ joined l)) 128 - b.length, by omega⟩
    rw [hd2, ← List.drop_drop, hd] at hr
    have := mono (joined l) d
    omega
  | n, (false, b) :: l, hn, hf => by
    obtain ⟨h1, h2, _⟩ := hf (false, b) (List.mem_cons_self ..)
    simp only at h1 h2
    have hl : (joined l).length ≤ n - 1 ∧ 1 ≤ n := by
      simp only [joined, List.length_append] at hn
      omega
    obtain ⟨n', rfl⟩ : ∃ n', n = n' + 1 := ⟨n - 1, by omega⟩
    have hfl : ∀ p, p ∈ l → fits p := fun p hp => hf p (List.mem_cons_of_mem _ hp)
    match b, h1 with
    | [x], _ =>
      have ih := (plan_least n' l (by omega) hfl).1
      have hw := plan_le_with x (joined l)
      have hc := withByte_cost (plan (joined l))
      have ej : joined ((false, [x]) :: l) = x :: joined l := rfl
      have et : total ((false, [x]) :: l) = 2 + total l := by simp [total, pcost]
      rw [ej, et]
      refine ⟨by omega, ?_⟩
      intro b r he hb heq
      have hb2 : b = [x] := by simp at he; exact he.1.symm
      subst hb2
      have hcc : (plan (x :: joined l)).cost = (plan (joined l)).cost + 2 := by omega
      rw [plan_cons] at hcc ⊢
      split at hcc
      · rename_i g; simp only at hcc; omega
      · rename_i g
        rw [if_neg g]
        unfold withByte at hcc ⊢
        split at hcc
        · rename_i k; rw [if_pos k]; simp
        · simp only at hcc; omega
    | x :: y :: c, _ =>
      have ej : joined ((false, x :: y :: c) :: l) = x :: joined ((false, y :: c) :: l) := rfl
      have et : total ((false, x :: y :: c) :: l) = 1 + total ((false, y :: c) :: l) := by simp [total, pcost]; omega
      have hf2 : ∀ p, p ∈ (false, y :: c) :: l → fits p := by
        intro p hp
        rcases List.mem_cons.1 hp with rfl | hp
        · refine ⟨by simp, ?_, by simp⟩
          simp only [List.length_cons] at h2 ⊢
          omega
        · exact hfl p hp
      have ih := plan_least n' ((false, y :: c) :: l) (by
        rw [ej] at hn; simp only [List.length_cons] at hn; omega) hf2
      have hne : ∃ z t, joined ((false, y :: c) :: l) = z :: t := ⟨y, c ++ joined l, rfl⟩
      rw [ej, et]
      generalize joined ((false, y :: c) :: l) = J at ih hne ⊢
      generalize total ((false, y :: c) :: l) = K at ih ⊢
      obtain ⟨ih1, ih2⟩ := ih
      have hw := plan_le_with x J
      have hc := withByte_cost (plan J)
      simp only [List.length_cons] at h2
      by_cases hk : K = (plan J).cost
      · obtain ⟨g1, g2⟩ := ih2 (y :: c) l rfl (by simp only [List.length_cons]; omega) hk
        obtain ⟨z, t, hz⟩ := hne
        have g3 := (plan_is z t).1
        rw [← hz] at g3
        simp only [List.length_cons] at g2
        have ew : withByte (plan J) = ⟨(plan J).cost + 1, false, (plan J).size + 1⟩ := by
          unfold withByte
          rw [if_neg]
          simp only [not_or, g1]
          refine ⟨by simp, by omega, by omega⟩
        rw [ew] at hw hc
        simp only at hw hc
        refine ⟨by omega, ?_⟩
        intro b r he hb heq
        have hb2 : b = x :: y :: c := by simp at he; exact he.1.symm
        subst hb2
        have hcc : (plan (x :: J)).cost = (plan J).cost + 1 := by omega
        rw [plan_cons, ew] at hcc ⊢
        split at hcc
        · rename_i g; simp only at hcc g; omega
        · rename_i g
          rw [if_neg g]
          simp only [List.length_cons]
          exact ⟨trivial, by omega⟩
      · refine ⟨by omega, ?_⟩
        intro b r he hb heq
        have hb2 : b = x :: y :: c := by simp at he; exact he.1.symm
        subst hb2
        have hcc : (plan (x :: J)).cost = (plan J).cost + 2 := by omega
        rw [plan_cons] at hcc ⊢
        split at hcc
        · rename_i g; simp only at hcc; omega
        · rename_i g
          rw [if_neg g]
          unfold withByte at hcc ⊢
          split at hcc
          · rename_i k; rw [if_pos k]; simp only [List.length_cons]; exact ⟨trivial, by omega⟩
          · simp only at hcc; omega

/-- A DECOMPOSITION THAT COSTS AS MUCH AS THE PLAN -/
theorem plan_made : ∀ (n : Nat) (s : List UInt8), s.length ≤ n → ∃ l, (∀ p, p ∈ l → fits p) ∧ joined l = s ∧ total l = (plan s).cost
  | _, [], _ => ⟨[], by simp, rfl, rfl⟩
  | 0, _ :: _, h => by simp at h
  | n + 1, x :: r, h => by
    obtain ⟨h1, h2, h3, h4, h5⟩ := plan_is x r
    generalize hp : plan (x :: r) = p at h1 h2 h3 h4 h5
    simp only [List.length_cons] at h
    obtain ⟨l, g1, g2, g3⟩ := plan_made n ((x :: r).drop p.size) (by simp; omega)
    have hlen : ((x :: r).take p.size).length = p.size := by simp; omega
    refine ⟨(p.run, (x :: r).take p.size) :: l, ?_, ?_, ?_⟩
    · intro q hq
      rcases List.mem_cons.1 hq with rfl | hq
      · refine ⟨?_, ?_, ?_⟩
        · simp only [hlen]; omega
        · simp only [hlen]; omega
        · intro hr
          simp only [hlen]
          obtain ⟨k1, k2, _⟩ := h4 hr
          exact ⟨k1, x, same_take _ _ _ k2⟩
      · exact g1 q hq
    · simp only [joined, g2, List.take_append_drop]
    · simp only [total, pcost, g3, hlen]
      cases hb : p.run with
      | true => have := (h4 hb).2.2; simp; omega
      | false => have := h5 hb; simp; omega

theorem joined_append (a b : List (Bool × List UInt8)) : joined (a ++ b) = joined a ++ joined b := by
  induction a with
  | nil => rfl
  | cons p a ih => simp [joined, ih]
theorem total_append (a b : List (Bool × List UInt8)) : total (a ++ b) = total a + total b := by
  induction a with
  | nil => simp [total]
  | cons p a ih => simp [total, ih]; omega
/-- the other way round -/
def back (l : List (Bool × List UInt8)) : List (Bool × List UInt8) := (l.map fun p => (p.1, p.2.reverse)).reverse
theorem back_cons (p : Bool × List UInt8) (l : List (Bool × List UInt8)) : back (p :: l) = back l ++ [(p.1, p.2.reverse)] := by simp [back]
theorem back_joined (l : List (Bool × List UInt8)) : joined (back l) = (joined l).reverse := by
  induction l with
  | nil => rfl
  | cons p l ih => rw [back_cons, joined_append, ih]; simp [joined]
theorem back_total (l : List (Bool × List UInt8)) : total (back l) = total l := by
  induction l with
  | nil => rfl
  | cons p l ih => rw [back_cons, total_append, ih]; simp [total, pcost]; omega
theorem back_fits (l : List (Bool × List UInt8)) (h : ∀ p, p ∈ l → fits p) : ∀ p, p ∈ back l → fits p := by
  intro p hp
  simp only [back, List.mem_reverse, List.mem_map] at hp
  obtain ⟨q, hq, rfl⟩ := hp
  obtain ⟨h1, h2, h3⟩ := h q hq
  refine ⟨by simpa using h1, by simpa using h2, ?_⟩
  intro hb
  obtain ⟨h4, x, h5⟩ := h3 hb
  refine ⟨by simpa using h4, x, ?_⟩
  simp only [List.length_reverse]
  rw [h5]
  simp

/- THE TABLE OF LEAST, over the beginnings of a string turned round -/
/-- of the fewest bytes and of the run's length behind so many rounds; m: the run at the end, T: the elder entries, the newest first -/
def cand (T : List Nat) (k f : Nat) : Nat := if T.getD k 0 + 1 + (k + 1) < f then T.getD k 0 + 1 + (k + 1) else f
def inner (big : Nat) (m : Nat) (T : List Nat) : Nat → Nat
  | 0 => big
  | k + 1 => if k + 1 ≤ m ∧ 2 ≤ k + 1 ∧ T.getD k 0 + 2 < cand T k (inner big m T k) then T.getD k 0 + 2 else cand T k (inner big m T k)
theorem cand_le (T : List Nat) (k f : Nat) : cand T k f ≤ f ∧ cand T k f ≤ T.getD k 0 + 1 + (k + 1) := by
  unfold cand
  split <;> omega
theorem cand_is (T : List Nat) (k f : Nat) : cand T k f = f ∨ cand T k f = T.getD k 0 + 1 + (k + 1) := by
  unfold cand
  split <;> simp
def fewTab (big : Nat) : List UInt8 → List Nat
  | [] => [0]
  | x :: r => inner big (same (x :: r)) (fewTab big r) (min (r.length + 1) 128) :: fewTab big r
def few (big : Nat) (u : List UInt8) : Nat := (fewTab big u).getD 0 0

theorem fewTab_drop (big : Nat) : ∀ (k : Nat) (s : List UInt8), k ≤ s.length → (fewTab big s).getD k 0 = few big (s.drop k)
  | 0, s, _ => by simp [few]
  | k + 1, [], h => by simp at h
  | k + 1, x :: r, h => by
    simp only [fewTab, List.getD_cons_succ, List.drop_succ_cons]
    exact fewTab_drop big k r (by simpa using h)

theorem inner_le (big m : Nat) (T : List Nat) : ∀ (K k : Nat), k < K → inner big m T K ≤ T.getD k 0 + 1 + (k + 1) ∧ (k + 1 ≤ m → 2 ≤ k + 1 → inner big m T K ≤ T.getD k 0 + 2)
  | 0, _, h => by omega
  | K + 1, k, h => by
    have c := cand_le T K (inner big m T K)
    have step : inner big m T (K + 1) ≤ cand T K (inner big m T K) := by
      rw [inner]
      split <;> omega
    by_cases hk : k < K
    · have ih := inner_le big m T K k hk
      exact ⟨by omega, fun a b => by have := ih.2 a b; omega⟩
    · obtain rfl : k = K := by omega
      refine ⟨by omega, fun a b => ?_⟩
      rw [inner]
      split
      · omega
      · rename_i g
        have : ¬ (T.getD k 0 + 2 < cand T k (inner big m T k)) := fun z => g ⟨a, b, z⟩
        omega
theorem inner_made (big m : Nat) (T : List Nat) : ∀ K : Nat, inner big m T K = big ∨ ∃ k, k < K ∧ (inner big m T K = T.getD k 0 + 1 + (k + 1) ∨ (k + 1 ≤ m ∧ 2 ≤ k + 1 ∧ inner big m T K = T.getD k 0 + 2))
  | 0 => .inl rfl
  | K + 1 => by
    have ih := inner_made big m T K
    rw [inner]
    split
    · rename_i g
      exact .inr ⟨K, by omega, .inr ⟨g.1, g.2.1, rfl⟩⟩
    · rcases cand_is T K (inner big m T K) with c | c
      · rw [c]
        rcases ih with ih | ⟨k, hk, ih⟩
        · exact .inl ih
        · exact .inr ⟨k, by omega, ih⟩
      · exact .inr ⟨K, by omega, .inl c⟩

theorem few_cons (big : Nat) (x : UInt8) (r : List UInt8) : few big (x :: r) = inner big (same (x :: r)) (fewTab big r) (min (r.length + 1) 128) := rfl
theorem few_le (big : Nat) (x : UInt8) (r : List UInt8) (k : Nat) (h0 : k < 128) (h1 : k ≤ r.length) :
    few big (x :: r) ≤ few big (r.drop k) + 1 + (k + 1) ∧ (k + 1 ≤ same (x :: r) → 2 ≤ k + 1 → few big (x :: r) ≤ few big (r.drop k) + 2) := by
  have h := inner_le big (same (x :: r)) (fewTab big r) (min (r.length + 1) 128) k (by omega)
  rw [fewTab_drop big k r h1] at h
  exact h
theorem few_small (big : Nat) : ∀ u : List UInt8, few big u ≤ 2 * u.length
  | [] => by simp [few, fewTab]
  | x :: r => by
    have := (few_le big x r 0 (by omega) (by omega)).1
    have ih := few_small big r
    simp only [List.drop_zero] at this
    simp only [List.length_cons]
    omega

theorem few_least (big : Nat) : ∀ (l : List (Bool × List UInt8)), (∀ p, p ∈ l → fits p) → few big (joined l) ≤ total l
  | [], _ => by simp [joined, few, fewTab]
  | (b, []) :: l, hf => by
    have := (hf _ (List.mem_cons_self ..)).1
    simp at this
  | (b, x :: c) :: l, hf => by
    obtain ⟨h1, h2, h3⟩ := hf _ (List.mem_cons_self ..)
    simp only [List.length_cons] at h1 h2 h3
    have ih := few_least big l (fun p hp => hf p (List.mem_cons_of_mem _ hp))
    have h := few_le big x (c ++ joined l) c.length (by omega) (by simp)
    have hd : (c ++ joined l).drop c.length = joined l := by simp
    rw [hd] at h
    simp only [joined, total, pcost, List.cons_append, List.length_cons]
    cases b with
    | false => simp; omega
    | true =>
      obtain ⟨h4, y, h5⟩ := h3 rfl
      have hs := same_of_replicate (c.length + 1) y (joined l) (by omega)
      rw [← h5, List.cons_append] at hs
      have := h.2 hs (by omega)
      simp
      omega

theorem few_made (big : Nat) : ∀ (n : Nat) (u : List UInt8), u.length ≤ n → 2 * u.length < big ∨ u = [] → ∃ l, (∀ p, p ∈ l → fits p) ∧ joined l = u ∧ total l = few big u
  | _, [], _, _ => ⟨[], by simp, rfl, rfl⟩
  | 0, _ :: _, h, _ => by simp at h
  | n + 1, x :: r, h, hb => by
    have hb' : 2 * (r.length + 1) < big := by rcases hb with hb | hb <;> simp at hb; omega
    have hs := few_small big (x :: r)
    rw [few_cons] at *
    have hl := same_le (x :: r)
    simp only [List.length_cons] at h hl hs
    rcases inner_made big (same (x :: r)) (fewTab big r) (min (r.length + 1) 128) with g | ⟨k, hk, g⟩
    · omega
    · rw [fewTab_drop big k r (by omega)] at g
      obtain ⟨l, g1, g2, g3⟩ := few_made big n (r.drop k) (by simp; omega) (.inl (by simp; omega))
      rcases g with g | ⟨k1, k2, g⟩
      · refine ⟨(false, x :: r.take k) :: l, ?_, ?_, ?_⟩
        · intro q hq
          rcases List.mem_cons.1 hq with rfl | hq
          · refine ⟨by simp, by simp; omega, by simp⟩
          · exact g1 q hq
        · simp [joined, g2]
        · simp only [total, pcost, g3, g]; simp; omega
      · refine ⟨(true, x :: r.take k) :: l, ?_, ?_, ?_⟩
        · intro q hq
          rcases List.mem_cons.1 hq with rfl | hq
          · have hlen : (x :: r.take k).length = k + 1 := by simp; omega
            refine ⟨by simp, by simp only [hlen]; omega, fun _ => ?_⟩
            simp only [hlen]
            exact ⟨k2, x, by rw [← same_take _ _ _ k1]; rfl⟩
          · exact g1 q hq
        · simp [joined, g2]
        · simp only [total, pcost, g3, g]; simp; omega

/-- THE TWO COUNTS ARE ONE -/
theorem plan_few (big : Nat) (s : List UInt8) (hb : 2 * s.length < big ∨ s = []) : (plan s).cost = few big s.reverse := by
  obtain ⟨l, h1, h2, h3⟩ := plan_made s.length s (Nat.le_refl _)
  obtain ⟨m, g1, g2, g3⟩ := few_made big s.reverse.length s.reverse (Nat.le_refl _) (by simpa using hb)
  have a := few_least big (back l) (back_fits l h1)
  rw [back_joined, back_total, h2, h3] at a
  have b := (plan_least (joined (back m)).length (back m) (Nat.le_refl _) (back_fits m g1)).1
  rw [back_joined, back_total, g2, g3, List.reverse_reverse] at b
  omega

/- WHAT SQUEEZED BYTES STAND FOR -/
def piece : List UInt8 → Option (List UInt8 × Nat)
  | [] => none
  | c :: r =>
    if c.toNat < 128 then (if c.toNat + 1 ≤ r.length then some (r.take (c.toNat + 1), c.toNat + 2) else none)
    else if c.toNat = 128 then none
    else match r with
      | [] => none
      | b :: _ => some (List.replicate (257 - c.toNat) b, 2)
def spread : Nat → List UInt8 → Int → List UInt8 → List UInt8 × Bool
  | 0, _, _, out => (out, true)
  | f + 1, s, most, out =>
    if s = [] then (out, true) else
    match piece s with
    | none => (out, false)
    | some (t, n) => if max most 0 < (out.length : Int) + t.length then (out ++ t.take ((max most 0).toNat - out.length), false) else spread f (s.drop n) most (out ++ t)
theorem spread_nil (f : Nat) (most : Int) (out : List UInt8) : spread f [] most out = (out, true) := by
  cases f <;> simp [spread]
theorem spread_none (f : Nat) (s : List UInt8) (most : Int) (out : List UInt8) (h0 : 0 < s.length) (hf : s.length ≤ f) (hp : piece s = none) : spread f s most out = (out, false) := by
  obtain ⟨f', rfl⟩ : ∃ f', f = f' + 1 := ⟨f - 1, by omega⟩
  rw [spread, if_neg (by intro hh; rw [hh] at h0; simp at h0), hp]
theorem spread_some (f : Nat) (s : List UInt8) (most : Int) (out t : List UInt8) (n : Nat) (h0 : 0 < s.length) (hf : s.length ≤ f) (hp : piece s = some (t, n)) :
    spread f s most out = if max most 0 < (out.length : Int) + t.length then (out ++ t.take ((max most 0).toNat - out.length), false) else spread (f - 1) (s.drop n) most (out ++ t) := by
  obtain ⟨f', rfl⟩ : ∃ f', f = f' + 1 := ⟨f - 1, by omega⟩
  rw [spread, if_neg (by intro hh; rw [hh] at h0; simp at h0), hp]
  rfl
theorem piece_le (s : List UInt8) (t : List UInt8) (n : Nat) (h : piece s = some (t, n)) : 2 ≤ n ∧ n ≤ s.length ∧ 1 ≤ t.length ∧ t.length ≤ 128 := by
  cases s with
  | nil => simp [piece] at h
  | cons c r =>
    simp only [piece] at h
    have hc := c.toNat_lt
    split at h
    · split at h
      · simp only [Option.some.injEq, Prod.mk.injEq] at h
        obtain ⟨rfl, rfl⟩ := h
        simp
        omega
      · simp at h
    · split at h
      · simp at h
      · cases r with
        | nil => simp at h
        | cons b q =>
          simp only [Option.some.injEq, Prod.mk.injEq] at h
          obtain ⟨rfl, rfl⟩ := h
          simp
          omega

/- WHAT SQUEEZE WRITES -/
def first (p : Plan) (s : List UInt8) : List UInt8 :=
  if p.run = true then [UInt8.ofNat (257 - p.size), s.headD 0] else UInt8.ofNat (p.size - 1) :: s.take p.size
def enc : Nat → List UInt8 → List UInt8
  | 0, _ => []
  | f + 1, s => if s = [] then [] else first (plan s) s ++ enc f (s.drop (plan s).size)
theorem enc_nil (f : Nat) : enc f [] = [] := by cases f <;> simp [enc]
theorem enc_length : ∀ (f : Nat) (s : List UInt8), s.length ≤ f → (enc f s).length = (plan s).cost
  | f, [], _ => by rw [enc_nil]; rfl
  | 0, _ :: _, h => by simp at h
  | f + 1, x :: r, h => by
    obtain ⟨h1, h2, h3, h4, h5⟩ := plan_is x r
    simp only [List.length_cons] at h
    have ih := enc_length f ((x :: r).drop (plan (x :: r)).size) (by simp; omega)
    rw [enc, if_neg (by simp), List.length_append, ih]
    unfold first
    cases hb : (plan (x :: r)).run with
    | true => have := (h4 hb).2.2; simp; omega
    | false => have := h5 hb; simp; omega
theorem piece_first (x : UInt8) (r rest : List UInt8) : piece (first (plan (x :: r)) (x :: r) ++ rest) = some ((x :: r).take (plan (x :: r)).size, (first (plan (x :: r)) (x :: r)).length) := by
  obtain ⟨h1, h2, h3, h4, h5⟩ := plan_is x r
  unfold first
  cases hb : (plan (x :: r)).run with
  | true =>
    obtain ⟨k1, k2, _⟩ := h4 hb
    rw [same_take _ _ _ k2]
    generalize (plan (x :: r)).size = n at *
    have e : (UInt8.ofNat (257 - n)).toNat = 257 - n := by simp; omega
    simp only [if_true, List.cons_append, List.nil_append, piece, e, List.headD_cons, List.length_cons, List.length_nil]
    rw [if_neg (by omega), if_neg (by omega)]
    congr 3
    omega
  | false =>
    have hlen : ((x :: r).take (plan (x :: r)).size).length = (plan (x :: r)).size := by simp; omega
    generalize (x :: r).take (plan (x :: r)).size = t at *
    generalize (plan (x :: r)).size = n at *
    have e : (UInt8.ofNat (n - 1)).toNat = n - 1 := by simp; omega
    simp only [Bool.false_eq_true, if_false, List.cons_append, piece, e, List.length_cons, List.length_append, hlen]
    rw [if_pos (by omega), if_pos (by omega)]
    have e2 : n - 1 + 1 = t.length := by omega
    rw [e2, List.take_left']
    · congr 2
      omega
    · rfl
theorem spread_enc : ∀ (f : Nat) (s : List UInt8) (F : Nat) (most : Int) (out : List UInt8), s.length ≤ f → (enc f s).length ≤ F → (out.length : Int) + s.length ≤ most → spread F (enc f s) most out = (out ++ s, true)
  | f, [], F, most, out, _, _, _ => by rw [enc_nil, spread_nil]; simp
  | 0, _ :: _, _, _, _, h, _, _ => by simp at h
  | f + 1, x :: r, F, most, out, h, hF, hm => by
    obtain ⟨h1, h2, h3, h4, h5⟩ := plan_is x r
    simp only [List.length_cons] at h hm
    have hp := piece_first x r (enc f ((x :: r).drop (plan (x :: r)).size))
    have hfl : 1 ≤ (first (plan (x :: r)) (x :: r)).length := by unfold first; split <;> simp
    rw [enc, if_neg (by simp)] at hF ⊢
    rw [List.length_append] at hF
    obtain ⟨F', rfl⟩ : ∃ F', F = F' + 1 := ⟨F - 1, by omega⟩
    rw [spread, if_neg (by intro hh; rw [hh] at hp; simp [piece] at hp), hp]
    simp only
    have hlen : ((x :: r).take (plan (x :: r)).size).length = (plan (x :: r)).size := by simp; omega
    rw [hlen, if_neg (by omega), List.drop_left']
    · rw [spread_enc f _ F' most _ (by simp; omega) (by omega) (by simp; omega)]
      simp
    · rfl
end Go.Proofs.YtpibpdpedjinhaaDoor.Sq
