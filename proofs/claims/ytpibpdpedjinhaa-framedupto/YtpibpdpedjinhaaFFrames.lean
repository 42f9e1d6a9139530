/- The walks of frame.All and derive.Frames: what it finds is Fr.frames, in a row of its own. -/
import Derived.Test.YtpibpdpedjinhaaFEach
import Derived.Test.YtpibpdpedjinhaaFFramed
namespace Go.Proofs.Ytpibpdpedjinhaa.Fr
open Go.RowKit Go.Joins
attribute [local go_sem] Oper.semAt_some

theorem one_tail (s : List UInt8) (p : Nat) (hp : p + 1 ≤ s.length) : one s (p + 1) = one (s.drop 1) p := by
  rw [one_drop s (p + 1) hp, one_drop (s.drop 1) p (by rw [List.length_drop]; omega), List.drop_drop, Nat.add_comm 1 p]
theorem Ate.eaten {s : List UInt8} (hs : 1 ≤ s.length) {l : List F} {p : Nat} (h : Ate (s.drop 1) l p) : Eaten s l (p + 1) := by
  induction h with
  | nil => exact Eaten.nil
  | @snoc l p x n h ho ih =>
    have h1 := one_le ho
    rw [List.length_drop] at h1
    rw [show p + n + 1 = p + 1 + n from by omega]
    exact Eaten.snoc ih (by omega) (by rw [one_tail s p (by omega)]; exact ho)
theorem frames_of {s : List UInt8} (hs : 1 ≤ s.length) (h0 : s.getD 0 0 = 0) {l : List F} {p : Nat} (ha : Ate (s.drop 1) l p) (hn : one (s.drop 1) p = none) :
    frames s = if l.length = 0 ∨ p < s.length - 1 then none else some l := by
  have he := ha.eaten hs
  have hle := ha.le
  rw [List.length_drop] at hle
  by_cases h2 : s.length < 2
  · rw [frames_no (.inl h2), if_pos (.inl (by omega))]
  · have hok : ¬ (s.length < 2 ∨ s.getD 0 0 ≠ 0) := by
      rintro (h | h)
      · exact h2 h
      · exact h h0
    by_cases hp : p < s.length - 1
    · rw [if_pos (.inr hp)]
      exact he.stuck hok (by omega) (by rw [one_tail s p (by omega)]; exact hn)
    · rw [if_neg]
      · exact he.all hok (by omega)
      · rintro (h | h)
        · cases ha with
          | nil => omega
          | snoc => simp at h
        · exact hp h

def FI (T : ByteArray) (B0 : Nat) (w : World) (pre : List X) (W : World) : Prop :=
  ∃ a cap, Boxed W B0 36 (.slice a pre.length cap) ∧ Boxed W (B0 + 1) 3 (.int .i64 (lastE pre)) ∧ Boxed W (B0 + 1 + 1) 9 (.string T) ∧ W.ownsRow B0 42 4 (.slice a pre.length cap) pre.length (flat (pre.map X.f)) ∧ Below B0 w W
theorem grown_cells {A B : World} {row : Option Nat} (hg : A.grownBy B row) (hr : ∀ r, row = some r → ∃ o : Obj, A.heap[r]? = some o ∧ o.isCells = false) : ∀ (k : Nat) (o : Obj), A.heap[k]? = some o → o.isCells = true → B.heap[k]? = some o := by
  intro k o hk ho
  refine (hg.block k (Array.getElem?_eq_some_iff.1 hk).1 (fun e => ?_)).trans hk
  obtain ⟨o', h1, h2⟩ := hr k e.symm
  rw [hk] at h1
  cases h1
  rw [ho] at h2
  cases h2
theorem cells_kept {A B : World} {row : Option Nat} (hg : A.grownBy B row) {n : Nat} (hr : ∀ r, row = some r → n ≤ r ∧ ∃ o : Obj, A.heap[r]? = some o ∧ o.isCells = false) {k : Nat} {o : Obj} (hk : A.heap[k]? = some o) (ho : o.isCells = true) : B.heap[k]? = some o :=
  grown_cells hg (fun r e => (hr r e).2) k o hk ho
theorem FI.own (T : ByteArray) (B0 : Nat) (w : World) : OwnFrom (B0 + 3) (FI T B0 w) := by
  rintro pre A B row ⟨a, cap, h1, h2, h2', h3, h4⟩ hg hr
  have hlt := h1.lt
  refine ⟨a, cap, cells_kept hg hr h1 rfl, cells_kept hg hr h2 rfl, cells_kept hg hr h2' rfl, ownsRow_kept h3 (fun g hgb => ?_), h4.grown hg (by omega) (fun k e => by have := (hr k e).1; omega)⟩
  obtain ⟨cur, hc⟩ := row_obj h3 g hgb
  rw [hc]
  exact cells_kept hg hr hc rfl
theorem boxed_other {W : World} {B : Nat} {t : TypeId} {v : Value} (h : Boxed W B t v) (a : Addr) (x : Value) (hne : B ≠ a.block) : Boxed (W.setCell a x) B t v := (Below.heap_setCell _ _ _ _ hne).trans h

set_option maxRecDepth 100000 in
set_option maxHeartbeats 4000000 in
theorem frames_some (s : ByteArray) (w : World) (hs : s.size ≤ 1048576) (hs0 : 0 < s.size) (h0 : s[0].toNat = 0) :
    Calls Try.prog 20 #[.string s] w fun e w' => GotF w.heap.size w' e (frames s.data.toList) ∧ Below w.heap.size w w' := by
  have hx := fun u => idx_run u s 0 0 hs0 rfl
  rw [h0] at hx
  have hg0 : s.data.toList.getD 0 0 = 0 := by rw [getD_byte s 0 hs0]; exact UInt8.toNat_inj.1 h0
  obtain ⟨T, hT⟩ : ∃ T : ByteArray, s.extract 1 s.size = T := ⟨_, rfl⟩
  have hTl : T.data.toList = s.data.toList.drop 1 := by rw [← hT, ext_list, List.take_of_length_le (by rw [← Lib.size_eq]; omega)]
  have hTs : T.size = s.size - 1 := by rw [← hT]; simp [ByteArray.size_extract]
  have hie : s.toList.isEmpty = false := by rw [toList_empty]; exact decide_eq_false (by omega)
  have h1s : (1 : Int) ≤ (s.size : Int) := by omega
  have Hg0 : Hid _ := And.intro hg0 hTl
  clear hg0 hTl h0
  refine callsIn_wide.1 (callsIn_of_wp_marks (n := 3) Try.func20 rfl trivial ?_ rfl)
  simp only [Try.ntmps20, List.size_toArray, List.length_cons, List.length_nil, Nat.reduceAdd, Nat.reduceSub, Array.replicate_succ, Array.replicate_zero, List.push_toArray, List.append_toArray, List.nil_append, List.cons_append]
  gi_wp2
  refine ⟨trivial, (callsIn_wide.2 (eachFrame_any T _)).mono ?_⟩
  rintro e w' ⟨rfl, rfl⟩
  gi_wp2
  obtain ⟨V, hV⟩ : ∃ V : World, V = ((w.alloc (Obj.cells #[.slice none 0 0] 36)).alloc (Obj.cells #[.int .i64 0] 3)).alloc (Obj.cells #[Value.string T] 9) := ⟨_, rfl⟩
  rw [← hV]
  have hVs : V.heap.size = w.heap.size + 3 := by rw [hV]; simp
  have hVb : Below w.heap.size w V := by rw [hV]; exact (((Below.refl _ w).alloc (Nat.le_refl _) _).alloc (by simp) _).alloc (by simp; omega) _
  have hsz3 : ∀ (a b c : Obj) (k : Nat), ((((w.alloc a).alloc b).alloc c).heap[k]?) = if k = w.heap.size + 2 then some c else if k = w.heap.size + 1 then some b else if k = w.heap.size then some a else w.heap[k]? := by
    intro a b c k
    simp only [World.alloc, Array.getElem?_push, Array.size_push]
  have v0 : Boxed V w.heap.size 36 (.slice none 0 0) := by unfold Boxed; rw [hV, hsz3]; simp
  have v1 : Boxed V (w.heap.size + 1) 3 (.int .i64 0) := by unfold Boxed; rw [hV, hsz3]; simp
  have v2 : Boxed V (w.heap.size + 1 + 1) 9 (.string T) := by
    have : Boxed V (w.heap.size + 2) 9 (.string T) := by unfold Boxed; rw [hV, hsz3]; simp
    exact this
  clear hV hsz3
  obtain ⟨i0, hi, hz0, hz1, hz2⟩ := info_parts info_frame
  refine range_gives (gf := 33) (lb := #[.pointer (some ⟨w.heap.size + 1 + 1, 0, none⟩)]) rfl (enters_of Try.func33 (by kernel_rfl) rfl)
    (each_gives T (w.heap.size + 1 + 1) V (by omega) v2.cell (by omega)) (Below.refl _ _) (by intro k hk; omega) (fun _ _ _ _ _ _ _ h => h) (fun _ => rfl)
    (FI T w.heap.size w) (fun _ _ _ => False) (by rw [hVs]; exact FI.own T w.heap.size w) (fun _ _ _ _ _ h => h.elim)
    ⟨none, 0, v0, v1, v2, World.ownsRow_nil _ _ _ _, hVb⟩
    (fun x B => { tmps := #[.string s, undef, .slice none 0 0, .bool false, .string T, .pointer (some ⟨w.heap.size, 0, none⟩), .pointer (some ⟨w.heap.size + 1, 0, none⟩), .int .i64 x.e, .pointer (some ⟨B, 0, none⟩), .string s, .bool false, .bool false, .string s, .int .u8 0, .bool false, .bool false, .string s, .string T, .string T, .func (.func 33) #[] #[.pointer (some ⟨w.heap.size + 1 + 1, 0, none⟩)], .int .i64 x.e, .agg #[.int .u32 x.f.chan, .int .u16 x.f.num, .string ⟨x.f.data.toArray⟩, .bool x.f.last], undef, undef, undef, undef, undef, undef, undef, undef, undef, undef, undef, undef, undef, undef, undef], defers := [] })
    (fun x => .cells #[.int .u32 x.f.chan, .int .u16 x.f.num, .string ⟨x.f.data.toArray⟩, .bool x.f.last] 42) ?assign ?body ?done ?stop
  case assign =>
    intro l x W K hK
    simp only [X.encs]
    gi_wp2
    exact hK
  case body =>
    rintro l pre x W0 W1 hlt0 ⟨a, cap, b0, b1, b2, q, hbw⟩ hb hpl
    have s1 := hb.size
    have hpl : pre.length < 1048576 := hpl
    obtain ⟨IB, hIB⟩ : ∃ IB : ByteArray, (⟨x.f.data.toArray⟩ : ByteArray) = IB := ⟨_, rfl⟩
    rw [hIB]
    obtain ⟨G, hG⟩ : ∃ G : World, G = W1.alloc (.cells #[.int .u32 x.f.chan, .int .u16 x.f.num, .string IB, .bool x.f.last] 42) := ⟨_, rfl⟩
    rw [← hG]
    have gs : G.heap.size = W1.heap.size + 1 := by rw [hG]; simp
    have gb : Below W1.heap.size W1 G := by rw [hG]; exact (Below.refl _ _).alloc (Nat.le_refl _) _
    have gb0 : Below W0.heap.size W0 G := hb.trans (gb.mono s1)
    have k0 : G.cell? ⟨W1.heap.size, 0, none⟩ = some (.int .u32 x.f.chan) := by rw [hG]; simp
    have k1 : G.cell? ⟨W1.heap.size, 1, none⟩ = some (.int .u16 x.f.num) := by rw [hG]; simp
    have k2 : G.cell? ⟨W1.heap.size, 2, none⟩ = some (.string IB) := by rw [hG]; simp
    have k3 : G.cell? ⟨W1.heap.size, 3, none⟩ = some (.bool x.f.last) := by rw [hG]; simp
    clear hG
    have c0 : Boxed G w.heap.size 36 (.slice a pre.length cap) := (gb0.block _ b0.lt).trans b0
    have c1 : Boxed G (w.heap.size + 1) 3 (.int .i64 (lastE pre)) := (gb0.block _ b1.lt).trans b1
    have c2 : Boxed G (w.heap.size + 1 + 1) 9 (.string T) := (gb0.block _ b2.lt).trans b2
    have m0 := c0.cell
    have bG : Below w.heap.size w G := hbw.trans (gb0.mono hbw.size)
    have sG := c0.lt
    have hqG : G.ownsRow w.heap.size 42 4 (.slice a pre.length cap) pre.length (flat (pre.map X.f)) := own_below q gb0
    have Hc : Hid _ := And.intro c0 (And.intro c1 (And.intro c2 (And.intro hqG bG)))
    clear c0 c1 c2 hqG bG b0 b1 b2 q hbw hb gb gb0
    gi_wp2_with (gi_at_builtin; refine wpListIn_append_own _ (by rfl) (.tmp 22) (.tmp 24) 36 (by rfl) w.heap.size 42 i0 _ 4 32 Try.underlying36 hi hz0 hz1 hz2 (by rfl) (by decide) _ pre.length (flat (pre.map X.f)) (by rfl) (own_below Hc.out.2.2.2.1 ((Below.refl _ G).alloc (Nat.le_refl _) _)) ⟨W1.heap.size + 1, 0, none⟩ 1 1 [.int .u32 x.f.chan, .int .u16 x.f.num, .string IB, .bool x.f.last] (by rfl) (by rfl) (by intro j u hj; rw [← gs]; match j, hj with | 0, hj => (simp at hj; subst hj; simp [Addr.add]) | 1, hj => (simp at hj; subst hj; simp [Addr.add]) | 2, hj => (simp at hj; subst hj; simp [Addr.add]) | 3, hj => (simp at hj; subst hj; simp [Addr.add])) (by intro u hu; simp at hu; rcases hu with rfl | rfl | rfl | rfl <;> rfl) (by unfold maxLen; omega) (by omega) (by simp; omega) ?_; intro v' w4 hown5 hgr5 _; obtain ⟨e0, e1, e2, e3, e4⟩ := Boxed.appended (n₀ := w.heap.size) Hc.out.1 (by decide) Hc.out.2.2.2.1 (by omega) (Nat.le_refl _) hown5 hgr5; have d1 := (Hc.out.2.1.alloc _).kept hgr5 (Hc.out.2.1.not_row (by decide) Hc.out.2.2.2.1); have d2 := (Hc.out.2.2.1.alloc _).kept hgr5 (Hc.out.2.2.1.not_row (by decide) Hc.out.2.2.2.1); obtain ⟨g, cap', rfl⟩ := owns_shape hown5 (by omega); have n0 := e0.cell; have n1 := e0.frozen; have n2 := d1.cell; have n3 := d1.frozen; have HF : Hid _ := And.intro e1 (And.intro e2 (And.intro e3 (And.intro e4 (And.intro d1 d2)))); clear e0 e1 e2 e3 e4 d1 d2 hown5 hgr5)
    obtain ⟨e1, e2, e3, e4, d1, d2⟩ := HF.out
    obtain ⟨_, _, c2, _, bG⟩ := Hc.out
    have d1' := boxed_other d1 ⟨w.heap.size, 0, none⟩ (.slice (some ⟨g, 0, none⟩) (pre.length + 1) cap') (by simp)
    have d2' := boxed_other (boxed_other d2 ⟨w.heap.size, 0, none⟩ (.slice (some ⟨g, 0, none⟩) (pre.length + 1) cap') (by simp; omega)) ⟨w.heap.size + 1, 0, none⟩ (.int .i64 x.e) (by simp)
    refine ⟨KeepsOthers.from (e3.trans (KeepsOthers.setCell _ _ _)) _, fun k hk => ?_, some ⟨g, 0, none⟩, cap', ?_, ?_, d2', ?_, ?_⟩
    · subst hk
      exact Eq.trans d2' (Eq.symm c2)
    · rw [show (pre ++ [x]).length = pre.length + 1 from by simp]
      exact boxed_other e1 _ _ (by simp)
    · rw [lastE_snoc]
      exact Boxed.set _ d1'
    · rw [show (pre ++ [x]).length = pre.length + 1 from by simp, List.map_append, flat_append]
      simp only [List.map_cons, List.map_nil, flat, fcells, List.append_nil]
      rw [hIB]
      exact ownsRow_kept e2 (fun g' hg' => Below.heap_setCell _ _ _ _ (fun e => (d1'.not_row (by decide) e2) (by rw [hg', e])))
    · exact (bG.trans e4).setCell (by simp) _
  case done =>
    rintro D xs W0 W hD hlt ⟨p, ha, hl, hn⟩ ⟨a, cap, b0, b1, b2, q, hbw⟩ hb hK
    have hDb := b2.lt
    have hfr := frames_of (s := s.data.toList) (by rw [← Lib.size_eq]; omega) Hg0.out.1 (l := xs.map X.f) (p := p) (by rw [← Hg0.out.2]; exact ha) (by rw [← Hg0.out.2]; exact hn)
    rw [List.length_map, ← Lib.size_eq] at hfr
    have s1 := hb.size
    have c0 : Boxed W w.heap.size 36 (.slice a xs.length cap) := (hb.block _ b0.lt).trans b0
    have c1 : Boxed W (w.heap.size + 1) 3 (.int .i64 (lastE xs)) := (hb.block _ b1.lt).trans b1
    have qW : W.ownsRow w.heap.size 42 4 (.slice a xs.length cap) xs.length (flat (xs.map X.f)) := own_below q hb
    have bW : Below w.heap.size w W := hbw.trans (hb.mono hbw.size)
    rw [hl] at c1
    have m0 := c0.cell
    have m1 := c1.cell
    have hxl : xs.length ≤ 1048576 := by
      have := ha.le
      rw [← Lib.size_eq, List.length_map] at this
      omega
    have hplt : p ≤ 1048576 := by
      have := ha.le
      rw [← Lib.size_eq] at this
      omega
    have hgr := grownBy_putObj' W D (.deferred none)
    have bF : Below w.heap.size w (W.putObj D (.deferred none)) := bW.grown hgr (by omega) (fun k e => by cases e; omega)
    have qF : (W.putObj D (.deferred none)).ownsRow w.heap.size 42 4 (.slice a xs.length cap) xs.length (flat (xs.map X.f)) := ownsRow_kept qW (fun g hg => World.putObj_heap_other (fun e => by
      obtain ⟨cur, hc⟩ := row_obj qW g hg
      subst e
      rw [hK] at hc
      cases hc))
    have HF : Hid _ := And.intro hfr (And.intro bF qF)
    clear hfr bF qF qW bW c0 c1 hgr ha hn
    by_cases h0 : xs.length = 0
    · have h0' : ((xs.length : Int) == 0) = true := by simp [h0]
      gi_wp2
      refine ⟨by simp, .inl ⟨_, _, rfl, run_takeDeferred hK, ?_⟩⟩
      refine ⟨.tuple #[.slice none 0 0, .bool false], by simp [results, Try.results20, go_sem], ?_, HF.out.2.1⟩
      rw [HF.out.1, if_pos (.inl h0)]
      rfl
    · have h0' : ((xs.length : Int) == 0) = false := beq_false_of_ne (by omega)
      by_cases h1 : p < s.size - 1
      · have h1' : (p : Int) < (T.size : Int) := by omega
        gi_wp2
        refine ⟨by simp, .inl ⟨_, _, rfl, run_takeDeferred hK, ?_⟩⟩
        refine ⟨.tuple #[.slice none 0 0, .bool false], by simp [results, Try.results20, go_sem], ?_, HF.out.2.1⟩
        rw [HF.out.1, if_pos (.inr h1)]
        rfl
      · have h1' : ¬ (p : Int) < (T.size : Int) := by omega
        gi_wp2
        refine ⟨by simp, .inl ⟨_, _, rfl, run_takeDeferred hK, ?_⟩⟩
        refine ⟨.tuple #[.slice a xs.length cap, .bool true], by simp [results, Try.results20, go_sem], ?_, HF.out.2.1⟩
        rw [HF.out.1, if_neg (by rintro (h | h); exact h0 h; exact h1 h)]
        refine ⟨a, cap, by rw [List.length_map], ?_⟩
        rw [List.length_map]
        exact HF.out.2.2
  case stop =>
    rintro D c pre W0 W hD hlt _ h
    exact h.elim

set_option maxRecDepth 100000 in
set_option maxHeartbeats 1000000 in
theorem all_said (s : ByteArray) (w : World) (hs : s.size ≤ 1048576) : Calls Try.prog 20 #[.string s] w fun e w' => GotF w.heap.size w' e (frames s.data.toList) ∧ Below w.heap.size w w' := by
  by_cases h0 : s.size = 0
  · rw [frames_no (.inl (by rw [← Lib.size_eq]; omega))]
    have hie : s.toList.isEmpty = true := by rw [toList_empty]; exact decide_eq_true h0
    refine callsIn_wide.1 (callsIn_of_wp_marks (n := 3) Try.func20 rfl trivial ?_ rfl)
    simp only [Try.ntmps20, List.size_toArray, List.length_cons, List.length_nil, Nat.reduceAdd, Nat.reduceSub, Array.replicate_succ, Array.replicate_zero, List.push_toArray, List.append_toArray, List.nil_append, List.cons_append]
    gi_wp2
    exact ⟨.tuple #[.slice none 0 0, .bool false], by simp [results, Try.results20, go_sem], rfl, Below.refl _ _⟩
  · have hs0 : 0 < s.size := by omega
    by_cases h1 : s[0].toNat = 0
    · exact frames_some s w hs hs0 h1
    · rw [frames_no (.inr (by rw [getD_byte s 0 hs0]; intro h; exact h1 (by rw [h]; rfl)))]
      have hie : s.toList.isEmpty = false := by rw [toList_empty]; exact decide_eq_false (by omega)
      have hx := fun u => idx_run u s 0 0 hs0 rfl
      have h1' : ((s[0].toNat : Int) == 0) = false := by simp; omega
      generalize s[0].toNat = c at *
      refine callsIn_wide.1 (callsIn_of_wp_marks (n := 3) Try.func20 rfl trivial ?_ rfl)
      simp only [Try.ntmps20, List.size_toArray, List.length_cons, List.length_nil, Nat.reduceAdd, Nat.reduceSub, Array.replicate_succ, Array.replicate_zero, List.push_toArray, List.append_toArray, List.nil_append, List.cons_append]
      gi_wp2
      exact ⟨.tuple #[.slice none 0 0, .bool false], by simp [results, Try.results20, go_sem], rfl, Below.refl _ _⟩

set_option maxRecDepth 100000 in
set_option maxHeartbeats 1000000 in
theorem frames_said : FramesSaid := by
  intro s w hs
  have HA := all_said s w hs
  generalize frames s.data.toList = fr at HA ⊢
  cases fr with
  | none =>
    have HB : Hid (Calls _ _ _ _ _) := HA
    clear HA
    go_enter Try.func9, Try.ntmps9
    go_wp2_with fail
    refine Calls.mono HB.out ?_
    rintro e w' ⟨hg, hb⟩
    obtain rfl := hg
    go_wp2
    exact bodyPost_ret (v := .tuple #[.slice none 0 0, .bool false]) (by simp [results, Try.results9, go_sem]) rfl ⟨rfl, hb⟩
  | some l =>
    have HB : Hid (Calls _ _ _ _ _) := HA
    clear HA
    go_enter Try.func9, Try.ntmps9
    go_wp2_with fail
    refine Calls.mono HB.out ?_
    rintro e w' ⟨hg, hb⟩
    obtain ⟨a, cap, rfl, ho⟩ := hg
    go_wp2
    exact bodyPost_ret (v := .tuple #[.slice a l.length cap, .bool true]) (by simp [results, Try.results9, go_sem]) rfl ⟨⟨a, cap, rfl, ho⟩, hb⟩
end Go.Proofs.Ytpibpdpedjinhaa.Fr
