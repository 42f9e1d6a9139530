/- The walk of tributarylaw.ownItem: it makes an item with lists of its own, which reads as the one that came in. -/
import Derived.Test.YtpibpdpedjinhaaDoorWOwn
namespace Go.Proofs.YtpibpdpedjinhaaDoor
open Go.RowKit Go.Joins

theorem own_below {w w' : World} {base e size n : Nat} {v : Value} {xs : List Value} (h : w.ownsRow base e size v n xs) (hb : Below w.heap.size w w') : w'.ownsRow base e size v n xs := by
  obtain ⟨h1, h2⟩ := h
  refine ⟨h1, ?_⟩
  rcases h2 with h2 | ⟨g, cap, cur, hv, hg, hh, r⟩
  · exact .inl h2
  · exact .inr ⟨g, cap, cur, hv, hg, (hb.block g (Array.getElem?_eq_some_iff.1 hh).1).trans hh, r⟩
theorem own_lt {w : World} {base e size n : Nat} {v : Value} {xs : List Value} (h : w.ownsRow base e size v n xs) {g : Nat} (hg : v.ownBlock = some g) : base ≤ g ∧ g < w.heap.size := by
  rcases h.2 with ⟨rfl, _⟩ | ⟨g', cap, cur, rfl, hb, hh, _⟩
  · simp [Value.ownBlock] at hg
  · simp [Value.ownBlock] at hg
    subst hg
    exact ⟨hb, (Array.getElem?_eq_some_iff.1 hh).1⟩
theorem xs_len {w : World} {base e n : Nat} {v : Value} {xs : List Value} (h : w.ownsRow base e 3 v n xs) : xs.length = n * 3 := h.1

/-- one more item behind those that are made -/
theorem part_step {w w1 w3 w4 : World} {n base : Nat} {i : Im.It} {k : Nat} {v v' : Value} {d0 d1 d2 : Value} (hk : k < i.kids.length) (hbs : base ≤ w.heap.size)
    {xs : List Value} (hown : w.ownsRow base 24 3 v k xs) {L H : Nat → Nat} (hLH : ∀ j, j < k → base ≤ L j ∧ L j ≤ H j ∧ H j ≤ w.heap.size ∧ (∀ g, v.ownBlock = some g → g < L j ∨ H j ≤ g)) (hord : ∀ a b, a < b → b < k → H a ≤ L b)
    (hkids : ∀ (j : Nat) (_hj : j < k) (hk : j < i.kids.length), ∃ d0 d1 d2, xs[j * 3]? = some d0 ∧ xs[j * 3 + 1]? = some d1 ∧ xs[j * 3 + 2]? = some d2 ∧ Own w n (L j) (H j) d0 d1 d2 (i.kids[j]))
    (hnew : Own w1 n w.heap.size w1.heap.size d0 d1 d2 (i.kids[k])) (hb1 : Below w.heap.size w w1) (hb3 : Below w1.heap.size w1 w3)
    (hown' : w4.ownsRow base 24 3 v' (k + 1) (xs ++ [d0, d1, d2])) (hgr : w3.grownBy w4 v.ownBlock) (hat : v'.ownBlock = v.ownBlock ∨ ∃ g, v'.ownBlock = some g ∧ w3.heap.size ≤ g) : Part w4 n base i (k + 1) v' := by
  have hx := xs_len hown
  have s1 := hb1.size
  have s3 := hb3.size
  have s4 := hgr.size
  have hgl : ∀ g, v.ownBlock = some g → g < w.heap.size := fun g hg => (own_lt hown hg).2
  refine ⟨xs ++ [d0, d1, d2], hown', fun j => if j < k then L j else w.heap.size, fun j => if j < k then H j else w1.heap.size, ?_, ?_, ?_⟩
  · intro j hj
    by_cases hjk : j < k
    · simp only [if_pos hjk]
      obtain ⟨a1, a2, a3, a4⟩ := hLH j hjk
      refine ⟨a1, a2, by omega, fun g hg => ?_⟩
      rcases hat with e | ⟨g', e, hge⟩
      · rw [e] at hg; exact a4 g hg
      · rw [e] at hg; simp at hg; omega
    · simp only [if_neg hjk]
      refine ⟨hbs, s1, by omega, fun g hg => ?_⟩
      rcases hat with e | ⟨g', e, hge⟩
      · rw [e] at hg; have := hgl g hg; omega
      · rw [e] at hg; simp at hg; omega
  · intro a b hab hb
    by_cases hbk : b < k
    · simp only [if_pos hbk, if_pos (show a < k by omega)]
      exact hord a b hab hbk
    · simp only [if_neg hbk, if_pos (show a < k by omega)]
      exact (hLH a (by omega)).2.2.1
  · intro j hj hjl
    by_cases hjk : j < k
    · obtain ⟨e0, e1, e2, q0, q1, q2, ho⟩ := hkids j hjk hjl
      obtain ⟨a1, a2, a3, a4⟩ := hLH j hjk
      simp only [if_pos hjk]
      refine ⟨e0, e1, e2, ?_, ?_, ?_, Own.kept n _ _ _ _ _ _ (fun m m1 m2 => ?_) ho⟩
      · rw [List.getElem?_append_left (by omega)]; exact q0
      · rw [List.getElem?_append_left (by omega)]; exact q1
      · rw [List.getElem?_append_left (by omega)]; exact q2
      · rw [hgr.block m (by omega) (fun e => by have := a4 m e.symm; omega), hb3.block m (by omega), hb1.block m (by omega)]
    · obtain rfl : j = k := by omega
      simp only [if_neg hjk]
      refine ⟨d0, d1, d2, ?_, ?_, ?_, Own.kept n _ _ _ _ _ _ (fun m m1 m2 => ?_) hnew⟩
      · rw [List.getElem?_append_right (by omega), hx]; simp
      · rw [List.getElem?_append_right (by omega), hx, show j * 3 + 1 - j * 3 = 1 from by omega]; rfl
      · rw [List.getElem?_append_right (by omega), hx, show j * 3 + 2 - j * 3 = 2 from by omega]; rfl
      · rw [hgr.block m (by omega) (fun e => by have := hgl m e.symm; omega), hb3.block m (by omega)]

/-- all are made, and one element more -/
theorem part_end {w w3 w4 : World} {n base lo : Nat} {i : Im.It} {v v' : Value} (hlo : lo ≤ base)
    {xs : List Value} (hown : w.ownsRow base 24 3 v i.kids.length xs) {L H : Nat → Nat} (hLH : ∀ j, j < i.kids.length → base ≤ L j ∧ L j ≤ H j ∧ H j ≤ w.heap.size ∧ (∀ g, v.ownBlock = some g → g < L j ∨ H j ≤ g)) (hord : ∀ a b, a < b → b < i.kids.length → H a ≤ L b)
    (hkids : ∀ (j : Nat) (_hj : j < i.kids.length) (hk : j < i.kids.length), ∃ d0 d1 d2, xs[j * 3]? = some d0 ∧ xs[j * 3 + 1]? = some d1 ∧ xs[j * 3 + 2]? = some d2 ∧ Own w n (L j) (H j) d0 d1 d2 (i.kids[j]))
    (hb3 : Below w.heap.size w w3)
    (hown' : w4.ownsRow base 24 3 v' (i.kids.length + 1) (xs ++ [.bool false, .string ⟨#[115, 112, 97, 114, 101]⟩, .slice none 0 0])) (hgr : w3.grownBy w4 v.ownBlock) (hat : v'.ownBlock = v.ownBlock ∨ ∃ g, v'.ownBlock = some g ∧ w3.heap.size ≤ g) :
    ∃ g cap, v' = .slice (some ⟨g, 0, none⟩) (i.kids.length + 1) cap ∧ base ≤ g ∧ g < w4.heap.size ∧ i.kids.length + 1 ≤ cap ∧ ∀ w5 : World, (∀ k, base ≤ k → k < w4.heap.size → w5.heap[k]? = w4.heap[k]?) → w4.heap.size ≤ w5.heap.size → Own w5 (n + 1) lo w5.heap.size (.bool i.list) (.string ⟨i.bytes.toArray⟩) (.slice (some ⟨g, 0, none⟩) i.kids.length cap) i := by
  have hx := xs_len hown
  have s3 := hb3.size
  have s4 := hgr.size
  rcases hown'.2 with ⟨_, h0⟩ | ⟨g, cap, cur, rfl, hbg, hh, hnc, hcm, hcs, htake⟩
  · omega
  · have hg4 : g < w4.heap.size := (Array.getElem?_eq_some_iff.1 hh).1
    have hcell : ∀ (m : Nat) (u : Value), (xs ++ [.bool false, .string ⟨#[115, 112, 97, 114, 101]⟩, .slice none 0 0])[m]? = some u → cur[m]? = some u := by
      intro m u hu
      have hm : m < (xs ++ [Value.bool false, .string ⟨#[115, 112, 97, 114, 101]⟩, .slice none 0 0]).length := (List.getElem?_eq_some_iff.1 hu).1
      have hm2 : m < (i.kids.length + 1) * 3 := by simp only [List.length_append, List.length_cons, List.length_nil] at hm; omega
      rw [← htake, List.getElem?_take_of_lt hm2] at hu
      simpa using hu
    refine ⟨g, cap, rfl, hbg, hg4, hnc, fun w5 hw5 hs5 => ⟨rfl, rfl, g, cap, cur, rfl, by omega, by omega, (hw5 g hbg hg4).trans hh, hnc, hcm, hcs, ⟨?_, ?_, ?_⟩, L, H, ?_, hord, ?_⟩⟩
    · apply hcell; rw [List.getElem?_append_right (by omega), hx]; simp
    · apply hcell; rw [List.getElem?_append_right (by omega), hx, show i.kids.length * 3 + 1 - i.kids.length * 3 = 1 from by omega]; rfl
    · apply hcell; rw [List.getElem?_append_right (by omega), hx, show i.kids.length * 3 + 2 - i.kids.length * 3 = 2 from by omega]; rfl
    · intro j hj
      obtain ⟨a1, a2, a3, a4⟩ := hLH j hj
      refine ⟨by omega, a2, by omega, ?_⟩
      rcases hat with e | ⟨g', e, hge⟩
      · exact a4 g (by rw [← e]; rfl)
      · simp [Value.ownBlock] at e; omega
    · intro j hj
      obtain ⟨e0, e1, e2, q0, q1, q2, ho⟩ := hkids j hj hj
      obtain ⟨a1, a2, a3, a4⟩ := hLH j hj
      refine ⟨e0, e1, e2, ?_, ?_, ?_, Own.kept n _ _ _ _ _ _ (fun m m1 m2 => ?_) ho⟩
      · apply hcell; rw [List.getElem?_append_left (by omega)]; exact q0
      · apply hcell; rw [List.getElem?_append_left (by omega)]; exact q1
      · apply hcell; rw [List.getElem?_append_left (by omega)]; exact q2
      · rw [hw5 m (by omega) (by omega), hgr.block m (by omega) (fun e => by have := a4 m e.symm; omega), hb3.block m (by omega)]

theorem below_alloc2 {B : Nat} {w w' : World} (h : Below B w w') (hB : B ≤ w'.heap.size) (o1 o2 : Obj) : Below B w ((w'.alloc o1).alloc o2) := (h.alloc hB _).alloc (by simp; omega) _

set_option maxRecDepth 100000 in
set_option maxHeartbeats 1000000 in
theorem own_any : ∀ (n D : Nat) (i : Im.It) (c0 c1 c2 : Value) (w : World), D ≤ w.heap.size → Im.wt n i ≤ 2097152 → In D w n c0 c1 c2 i →
    Calls Tryd.prog 6 #[.agg #[c0, c1, c2]] w fun e w' => ∃ d0 d1 d2, e = .returned (.agg #[d0, d1, d2]) ∧ Own w' n w.heap.size w'.heap.size d0 d1 d2 i ∧ Below w.heap.size w w' := by
  intro n
  induction n with
  | zero => intro D i c0 c1 c2 w _ _ h; cases h
  | succ n ih =>
    intro D i c0 c1 c2 w hD hw h
    have hkl := Im.kids_le (In.dp _ _ _ _ _ h)
    obtain ⟨rfl, rfl, a, cap, rfl, h3⟩ := h
    have H3 : Hid (i.kids ≠ [] → ∃ b off, a = some ⟨b, off, none⟩ ∧ b < D ∧ ∀ (j : Nat) (hj : j < i.kids.length), ∃ d0 d1 d2, K3 w b (off + j * 3) d0 d1 d2 ∧ In D w n d0 d1 d2 (i.kids[j])) := h3
    have Hih : Hid _ := ih
    clear h3 ih
    have hl : i.kids.length ≤ 2097152 := by omega
    obtain ⟨S, hS⟩ : ∃ S : ByteArray, (⟨i.bytes.toArray⟩ : ByteArray) = S := ⟨_, rfl⟩
    have HS : Hid _ := hS
    rw [hS]
    clear hS
    obtain ⟨i0, hi, hz0, hz1, hz2⟩ := info_parts info_item
    have Hi : Hid _ := And.intro hi (And.intro hz0 (And.intro hz1 hz2))
    clear hi hz0 hz1 hz2
    go_enter Tryd.func6, Tryd.ntmps6
    go_wp2_with fail
    obtain ⟨X, hX⟩ : ∃ X : World, X = ((w.alloc (.cells #[.bool i.list, .string S, .slice a i.kids.length cap] 24)).alloc (.cells #[.bool false, .string ⟨#[]⟩, .slice none 0 0] 24)) := ⟨_, rfl⟩
    have hXs : X.heap.size = w.heap.size + 2 := by rw [hX]; simp
    have hX0 : X.heap[w.heap.size]? = some (.cells #[.bool i.list, .string S, .slice a i.kids.length cap] 24 (0, 0)) := by
      rw [hX, Below.heap_alloc _ _ _ (by simp)]
      exact heap_alloc_new _ _
    have hX1 : X.heap[w.heap.size + 1]? = some (.cells #[.bool false, .string ⟨#[]⟩, .slice none 0 0] 24 (0, 0)) := by
      rw [hX]
      have := heap_alloc_new (w.alloc (.cells #[.bool i.list, .string S, .slice a i.kids.length cap] 24)) (.cells #[.bool false, .string ⟨#[]⟩, .slice none 0 0] 24)
      simpa using this
    have hXb : Below w.heap.size w X := by rw [hX]; exact ((Below.refl _ w).alloc (Nat.le_refl _) _).alloc (by simp) _
    rw [← hX]
    have HX : Hid _ := And.intro hXs (And.intro hX0 hX1)
    clear hX hXs hX0 hX1
    go_loopg [3, 4] i.kids.length (fun g v t wx => ∃ k : Nat, k ≤ i.kids.length ∧ t = .int .i64 k ∧ g = i.kids.length - k ∧ Part wx n (w.heap.size + 2) i k v ∧ Below (w.heap.size + 2) X wx)
    case atStart => exact ⟨0, Nat.zero_le _, rfl, rfl, ⟨[], World.ownsRow_nil _ _ _ _, fun _ => 0, fun _ => 0, fun j hj => by omega, fun a b _ hb => by omega, fun j hj => by omega⟩, Below.refl _ _⟩
    case round =>
      obtain ⟨k, hk, rfl, rfl, hP, hb⟩ := hrel
      obtain ⟨hXs, hX0, hX1⟩ := HX.out
      have hsz := hb.size
      rw [hXs] at hsz
      have hx0 := (hb.block w.heap.size (by omega)).trans hX0
      have hx1 := (hb.block (w.heap.size + 1) (by omega)).trans hX1
      have hbw : Below w.heap.size w wr := hXb.trans (hb.mono (by omega))
      have k2 : wr.cell? ⟨w.heap.size, 2, none⟩ = some (.slice a i.kids.length cap) := by rw [Lib.cell_of_heap hx0]; rfl
      obtain ⟨xs, hown, L, H, hLH, hord, hkids⟩ := hP
      by_cases hlt : k < i.kids.length
      · have hlt' : (k : Int) < (i.kids.length : Int) := by omega
        have hne2 : i.kids ≠ [] := by intro e; rw [e] at hlt; simp at hlt
        obtain ⟨b, off, rfl, hbB, hj⟩ := H3.out hne2
        obtain ⟨f0, f1, f2, hd, hin⟩ := hj k hlt
        obtain ⟨ka, kcap, rfl, rfl, rfl⟩ := hin.shape
        have hwk := Im.wt_kid (n := n) (List.getElem_mem hlt)
        obtain ⟨p0, p1, p2⟩ := hd.below hbw (by omega)
        have hcall := fun (_ : Unit) => Hih.out D (i.kids[k]) _ _ _ wr (Nat.le_trans hD hbw.size) (by omega) (In.below (hbw.mono hD) _ _ _ _ _ hin)
        have Hcall : Hid _ := hcall
        have HP : Hid _ := And.intro hown (And.intro hLH (And.intro hord hkids))
        have Hx : Hid _ := And.intro hx0 hx1
        clear hcall hj hd hin hne2 hown hLH hord hkids hx0 hx1 hX0 hX1 hXs
        go_wp2_with fail
        refine (Hcall.out ()).mono ?_
        rintro e w1 ⟨d0, d1, d2, rfl, ho1, hb1⟩
        obtain ⟨g1, cap1, rfl, rfl, rfl⟩ := ho1.shape
        have Ho1 : Hid _ := ho1
        clear ho1 p0 p1 p2 k2
        obtain ⟨hown, hLH, hord, hkids⟩ := HP.out
        obtain ⟨hi, hz0, hz1, hz2⟩ := Hi.out
        have hown3 := fun o1 o2 : Obj => ((own_below hown hb1).alloc o1).alloc o2
        have HP2 : Hid _ := And.intro hown (And.intro hLH (And.intro hord hkids))
        have Hown3 : Hid _ := hown3
        have Hii : Hid _ := And.intro hi (And.intro hz0 (And.intro hz1 hz2))
        clear hown hLH hord hkids hown3 HP hi hz0 hz1 hz2
        have hs1 := hb1.size
        go_wp2_with (at_builtin; refine wpList_append_mine _ rfl (.tmp 19) (.tmp 21) 22 rfl (w.heap.size + 2) 24 i0 _ 3 48 Tryd.underlying22 Hii.out.1 Hii.out.2.1 Hii.out.2.2.1 Hii.out.2.2.2 rfl (by decide) _ k xs rfl (Hown3.out _ _) ⟨w1.heap.size + 1, 0, none⟩ 1 1 [.bool i.kids[k].list, .string ⟨i.kids[k].bytes.toArray⟩, .slice (some ⟨g1, 0, none⟩) i.kids[k].kids.length cap1] rfl (by decide) rfl ?c1 ?c2 ?c3 ?c4 ?c5 ?_)
        case c1 =>
          intro j u hj
          match j, hj with
          | 0, hj => simp at hj; subst hj; simp [Addr.add]
          | 1, hj => simp at hj; subst hj; simp [Addr.add]
          | 2, hj => simp at hj; subst hj; simp [Addr.add]
        case c2 =>
          intro u hu
          simp at hu
          rcases hu with rfl | rfl | rfl <;> rfl
        case c3 => unfold maxLen; omega
        case c4 => omega
        case c5 => simp; omega
        · intro v' w4 hown4 hgr hat
          have Hst : Hid (Part w4 n (w.heap.size + 2) i (k + 1) v') := by
            obtain ⟨hown, hLH, hord, hkids⟩ := HP2.out
            exact part_step hlt (by omega) hown hLH hord hkids Ho1.out hb1 (below_alloc2 (Below.refl _ w1) (Nat.le_refl _) _ _) hown4 hgr (by simpa using hat)
          have hb4 : Below (w.heap.size + 2) X w4 := by
            obtain ⟨hown, _⟩ := HP2.out
            exact Below.grown (below_alloc2 (hb.trans (hb1.mono hsz)) (by omega) _ _) hgr (by simp; omega) (fun m hm => (own_lt hown hm).1)
          clear hown4 hgr hat
          go_wp2_with fail
          go_roundg (i.kids.length - (k + 1))
          case measure => omega
          case rel => exact ⟨k + 1, by omega, by go_num, rfl, Hst.out, hb4⟩
      · obtain rfl : k = i.kids.length := by omega
        have hlt' : ¬ (i.kids.length : Int) < (i.kids.length : Int) := by omega
        have hown3 := fun o1 : Obj => hown.alloc o1
        have HP2 : Hid _ := And.intro hown (And.intro hLH (And.intro hord hkids))
        have Hown3 : Hid _ := hown3
        have Hx : Hid _ := And.intro hx0 hx1
        clear hown hLH hord hkids hown3 hx0 hx1 hX0 hX1 hXs
        go_wp2_with (at_builtin; refine wpList_append_mine _ rfl (.tmp 23) (.tmp 25) 22 rfl (w.heap.size + 2) 24 i0 _ 3 48 Tryd.underlying22 Hi.out.1 Hi.out.2.1 Hi.out.2.2.1 Hi.out.2.2.2 rfl (by decide) _ i.kids.length xs rfl (Hown3.out _) ⟨wr.heap.size, 0, none⟩ 1 1 [.bool false, .string ⟨#[115, 112, 97, 114, 101]⟩, .slice none 0 0] rfl (by decide) rfl ?c1 ?c2 ?c3 ?c4 ?c5 ?_)
        case c2 => exact ⟨rfl, rfl, rfl⟩
        case c3 => unfold maxLen; omega
        case c4 => omega
        case c5 => omega
        · intro v' w4 hown4 hgr hat
          obtain ⟨hown, hLH, hord, hkids⟩ := HP2.out
          obtain ⟨g, cp, rfl, hbg, hg4, hcp, hfin⟩ := part_end (lo := w.heap.size) (by omega) hown hLH hord hkids ((Below.refl _ wr).alloc (Nat.le_refl _) _) hown4 hgr (by simpa using hat)
          have hb4 : Below (w.heap.size + 2) X w4 := Below.grown (hb.alloc (by omega) _) hgr (by simp; omega) (fun m hm => (own_lt hown hm).1)
          obtain ⟨hXs, hX0, hX1⟩ := HX.out
          have hy0 := (hb4.block w.heap.size (by omega)).trans hX0
          have hy1 := (hb4.block (w.heap.size + 1) (by omega)).trans hX1
          have s4 := hb4.size
          rw [hXs] at s4
          have m0 : w4.cell? ⟨w.heap.size, 0, none⟩ = some (.bool i.list) := by rw [Lib.cell_of_heap hy0]; rfl
          have m1 : w4.cell? ⟨w.heap.size, 1, none⟩ = some (.string S) := by rw [Lib.cell_of_heap hy0]; rfl
          have m2 : w4.cell? ⟨w.heap.size, 2, none⟩ = some (.slice a i.kids.length cap) := by rw [Lib.cell_of_heap hy0]; rfl
          have r0 : w4.cell? ⟨w.heap.size + 1, 0, none⟩ = some (.bool false) := by rw [Lib.cell_of_heap hy1]; rfl
          have r1 : w4.cell? ⟨w.heap.size + 1, 1, none⟩ = some (.string ⟨#[]⟩) := by rw [Lib.cell_of_heap hy1]; rfl
          have r2 : w4.cell? ⟨w.heap.size + 1, 2, none⟩ = some (.slice none 0 0) := by rw [Lib.cell_of_heap hy1]; rfl
          have fm := Lib.frozen_of_heap hy0
          have fr := Lib.frozen_of_heap hy1
          have Hfin : Hid _ := hfin
          have Hb4 : Hid _ := hb4
          have hcp' : (i.kids.length : Int) + 1 ≤ (cp : Int) := by omega
          clear hown hLH hord hkids hown4 hgr hat hfin hb4 hX0 hX1 hXs hy0 hy1 k2
          go_wp2_with fail
          have hfr5 : ∀ (x1 x2 x3 x4 : Value) (m : Nat), w.heap.size + 2 ≤ m → ((((w4.setCell ⟨w.heap.size, 2, none⟩ x1).setCell ⟨w.heap.size + 1, 0, none⟩ x2).setCell ⟨w.heap.size + 1, 1, none⟩ x3).setCell ⟨w.heap.size + 1, 2, none⟩ x4).heap[m]? = w4.heap[m]? := by
            intro x1 x2 x3 x4 m hm
            rw [Below.heap_setCell _ _ _ _ (by simp; omega), Below.heap_setCell _ _ _ _ (by simp; omega), Below.heap_setCell _ _ _ _ (by simp; omega), Below.heap_setCell _ _ _ _ (by simp; omega)]
          have hsz5 : ∀ (x1 x2 x3 x4 : Value), ((((w4.setCell ⟨w.heap.size, 2, none⟩ x1).setCell ⟨w.heap.size + 1, 0, none⟩ x2).setCell ⟨w.heap.size + 1, 1, none⟩ x3).setCell ⟨w.heap.size + 1, 2, none⟩ x4).heap.size = w4.heap.size := by
            intro x1 x2 x3 x4
            simp [World.setCell]
          refine bodyPost_ret (v := .agg #[.bool i.list, .string S, .slice (some ⟨g, 0, none⟩) i.kids.length cp]) (by simp [results, Tryd.results6, go_sem, r0, r1, r2]) rfl ⟨_, _, _, rfl, ?_, ?_⟩
          · have := Hfin.out _ (fun m h1 _ => hfr5 (.slice (some ⟨g, 0, none⟩) i.kids.length cp) (.bool i.list) (.string S) (.slice (some ⟨g, 0, none⟩) i.kids.length cp) m h1) (Nat.le_of_eq (hsz5 _ _ _ _).symm)
            rw [HS.out] at this
            exact this
          · exact ((((hXb.trans (Hb4.out.mono (by omega))).setCell (Nat.le_refl _) _).setCell (by simp) _).setCell (by simp) _).setCell (by simp) _
end Go.Proofs.YtpibpdpedjinhaaDoor
