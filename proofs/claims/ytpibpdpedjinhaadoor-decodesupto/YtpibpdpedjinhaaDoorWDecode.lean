/- The walks of item.Each and code.Decode: what Decode finds is Im.dec, in memory of its own. -/
import Derived.Test.YtpibpdpedjinhaaDoorWFirst2
import Derived.Test.YtpibpdpedjinhaaDoorRoundM
namespace Go.Proofs.YtpibpdpedjinhaaDoor
open Go.RowKit Go.Joins Go.Shelf
attribute [local go_sem] Oper.semAt_some

theorem first_all : ∀ d : Nat, FirstSaid d
  | 0 => first_any 0 (.inl rfl)
  | d + 1 => first_any (d + 1) (.inr ⟨d, rfl, first_all d⟩)

set_option maxRecDepth 100000 in
set_option maxHeartbeats 1000000 in
theorem Each_any (s : ByteArray) (w : World) :
    Calls Tryd.prog 19 #[.string s] w fun e w' => e = .returned (.func (.func 46) #[] #[.pointer (some ⟨w.heap.size, 0, none⟩), .pointer (some ⟨w.heap.size + 1, 0, none⟩)]) ∧ w' = (w.alloc (.cells #[.string s] 9)).alloc (.cells #[.int .i64 1] 3) := by
  go_enter Tryd.func19, Tryd.ntmps19
  go_wp2_with fail
  refine (each_any s 1 _).mono ?_
  rintro e w1 ⟨rfl, rfl⟩
  go_wp2_with fail
  go_ret
  exact ⟨rfl, rfl⟩

/-- an item and OK, or none and an error, as two results -/
def Decoded (n lo : Nat) (w' : World) (e : Ending) : Option Im.It → Prop
  | none => e = .returned (.tuple #[.agg #[.bool false, .string ⟨#[]⟩, .slice none 0 0], .int .i64 4])
  | some i => ∃ a cap, e = .returned (.tuple #[.agg #[.bool i.list, .string ⟨i.bytes.toArray⟩, .slice a i.kids.length cap], .int .i64 0]) ∧ Tr w' n lo w'.heap.size (.bool i.list) (.string ⟨i.bytes.toArray⟩) (.slice a i.kids.length cap) i

theorem set3_block {w : World} {b : Nat} {u0 u1 u2 : Value} {t : TypeId} (h : w.heap[b]? = some (.cells #[u0, u1, u2] t (0, 0))) (x y z : Value) : (((w.setCell ⟨b, 0, none⟩ x).setCell ⟨b, 1, none⟩ y).setCell ⟨b, 2, none⟩ z).heap[b]? = some (.cells #[x, y, z] t (0, 0)) := by
  have := block_setCell (block_setCell (block_setCell h (i := 0) x) (i := 1) y) (i := 2) z
  simpa using this
theorem Im.Eats.zero {g : List UInt8 → Option (Im.It × Nat)} {s : List UInt8} {p : Nat} (h : Im.Eats g s [] p) : p = 0 := by
  generalize hl : ([] : List Im.It) = l at h
  cases h with
  | nil => rfl
  | snoc => simp at hl
theorem Im.Eats.one {g : List UInt8 → Option (Im.It × Nat)} {s : List UInt8} {i : Im.It} {p : Nat} (h : Im.Eats g s [i] p) : g s = some (i, p) := by
  generalize hl : [i] = l at h
  cases h with
  | nil => simp at hl
  | @snoc l0 p0 i0 n0 h hp hg =>
    have e := hl.symm
    rw [List.append_eq_singleton_iff] at e
    rcases e with ⟨rfl, e⟩ | ⟨_, e⟩
    · simp at e
      subst e
      obtain rfl := h.zero
      simpa using hg
    · simp at e
def DI (s : ByteArray) (B0 : Nat) (w : World) (pre : List X) (W : World) : Prop :=
  pre = [] ∧ Boxed W B0 9 (.string s) ∧ W.heap[B0 + 1]? = some (.cells #[.bool false, .string ⟨#[]⟩, .slice none 0 0] 24 (0, 0)) ∧ Boxed W (B0 + 2) 26 (.int .i64 0) ∧ Below B0 w W ∧ B0 + 5 ≤ W.heap.size
def DX (s : ByteArray) (B0 : Nat) (w : World) (c : Code) (pre : List X) (W : World) : Prop :=
  (c = .exit 0 ∧ ∃ x, pre = [x] ∧ x.e < s.size ∧ DI s B0 w [] W) ∨
  (c = .ret ∧ ∃ x, pre = [x] ∧ s.size ≤ x.e ∧ W.heap[B0 + 1]? = some (.cells #[.bool x.i.list, .string ⟨x.i.bytes.toArray⟩, .slice x.a x.i.kids.length x.cap] 24 (0, 0)) ∧ Boxed W (B0 + 2) 26 (.int .i64 0) ∧ Below B0 w W ∧ B0 + 5 ≤ W.heap.size ∧ Tr W 9 (B0 + 5) W.heap.size (.bool x.i.list) (.string ⟨x.i.bytes.toArray⟩) (.slice x.a x.i.kids.length x.cap) x.i)
theorem cells_kept {A B : World} {row : Option Nat} (hg : A.grownBy B row) {n : Nat} (hr : ∀ r, row = some r → n ≤ r ∧ ∃ o : Obj, A.heap[r]? = some o ∧ o.isCells = false) {k : Nat} {o : Obj} (hk : A.heap[k]? = some o) (ho : o.isCells = true) : B.heap[k]? = some o :=
  grown_cells hg (fun r e => (hr r e).2) k o hk ho
theorem DI.own (s : ByteArray) (B0 : Nat) (w : World) : OwnFrom (B0 + 5) (DI s B0 w) := by
  rintro pre A B row ⟨rfl, h1, h2, h3, h4, h5⟩ hg hr
  exact ⟨rfl, cells_kept hg hr h1 rfl, cells_kept hg hr h2 rfl, cells_kept hg hr h3 rfl, h4.grown hg (by omega) (fun k e => by have := (hr k e).1; omega), by have := hg.size; omega⟩
theorem DX.own (s : ByteArray) (B0 : Nat) (w : World) (c : Code) : OwnFrom (B0 + 5) (DX s B0 w c) := by
  rintro pre A B row (⟨hc, x, rfl, hx, hD⟩ | ⟨hc, x, rfl, hx, h2, h3, h4, h5, h6⟩) hg hr
  · exact .inl ⟨hc, x, rfl, hx, DI.own s B0 w _ _ _ _ hD hg hr⟩
  · exact .inr ⟨hc, x, rfl, hx, cells_kept hg hr h2 rfl, cells_kept hg hr h3 rfl, h4.grown hg (by omega) (fun k e => by have := (hr k e).1; omega), by have := hg.size; omega, h6.turn hg (fun r e => (hr r e).2)⟩

set_option maxRecDepth 100000 in
set_option maxHeartbeats 4000000 in
theorem decode_any (s : ByteArray) (w : World) (hs : s.size ≤ 16777216) (hH : Heads w) :
    Calls Tryd.prog 11 #[.string s] w fun e w' => Decoded 9 w.heap.size w' e (Im.dec s.data.toList) ∧ Below w.heap.size w w' := by
  have h0 := hH.pos
  generalize hR : Im.dec s.data.toList = R
  have HR : Hid _ := hR
  clear hR
  refine callsIn_wide.1 (callsIn_of_wp_marks (n := 3) Tryd.func11 rfl trivial ?_ rfl)
  simp only [Tryd.ntmps11, List.size_toArray, List.length_cons, List.length_nil, Nat.reduceAdd, Nat.reduceSub, Array.replicate_succ, Array.replicate_zero, List.push_toArray, List.append_toArray, List.nil_append, List.cons_append]
  gi_wp2
  refine ⟨trivial, ?_⟩
  refine (callsIn_wide.2 (Each_any s _)).mono ?_
  rintro e w' ⟨rfl, rfl⟩
  gi_wp2
  obtain ⟨V, hV⟩ : ∃ V : World, V = (((((w.alloc (Obj.cells #[Value.string s] 9)).alloc (Obj.cells #[.bool false, .string ⟨#[]⟩, .slice none 0 0] 24)).alloc (Obj.cells #[Value.int IntKind.i64 0] 26)).alloc (Obj.cells #[Value.string s] 9)).alloc (Obj.cells #[Value.int IntKind.i64 1] 3)) := ⟨_, rfl⟩
  rw [← hV]
  have hVs : V.heap.size = w.heap.size + 5 := by rw [hV]; simp
  have hVb : Below w.heap.size w V := by rw [hV]; exact (((((Below.refl _ w).alloc (Nat.le_refl _) _).alloc (by simp) _).alloc (by simp; omega) _).alloc (by simp; omega) _).alloc (by simp; omega) _
  have hsz5 : ∀ (a b c d e : Obj) (k : Nat), ((((((w.alloc a).alloc b).alloc c).alloc d).alloc e).heap[k]?) = if k = w.heap.size + 4 then some e else if k = w.heap.size + 3 then some d else if k = w.heap.size + 2 then some c else if k = w.heap.size + 1 then some b else if k = w.heap.size then some a else w.heap[k]? := by
    intro a b c d e k
    simp only [World.alloc, Array.getElem?_push, Array.size_push]
  have v0 : Boxed V w.heap.size 9 (.string s) := by unfold Boxed; rw [hV, hsz5]; simp
  have v1 : V.heap[w.heap.size + 1]? = some (.cells #[.bool false, .string ⟨#[]⟩, .slice none 0 0] 24 (0, 0)) := by rw [hV, hsz5]; simp
  have v2 : Boxed V (w.heap.size + 2) 26 (.int .i64 0) := by unfold Boxed; rw [hV, hsz5]; simp
  have v3 : V.cell? ⟨w.heap.size + 1 + 1 + 1, 0, none⟩ = some (.string s) := by
    have : Boxed V (w.heap.size + 3) 9 (.string s) := by unfold Boxed; rw [hV, hsz5]; simp
    exact this.cell
  have v4 : V.cell? ⟨w.heap.size + 1 + 1 + 1 + 1, 0, none⟩ = some (.int .i64 (1 : Nat)) := by
    have : Boxed V (w.heap.size + 4) 3 (.int .i64 1) := by unfold Boxed; rw [hV, hsz5]; simp
    exact this.cell
  clear hV hsz5
  refine range_gives (gf := 46) (lb := #[.pointer (some ⟨w.heap.size + 1 + 1 + 1, 0, none⟩), .pointer (some ⟨w.heap.size + 1 + 1 + 1 + 1, 0, none⟩)]) rfl (enters_of Tryd.func46 (by kernel_rfl) rfl)
    (each_gives 8 (first_all 8) s 1 (w.heap.size + 1 + 1 + 1) (w.heap.size + 1 + 1 + 1 + 1) V hs rfl (hH.below hVb h0) (by omega) v3 v4 (by omega) (by omega)) (Below.refl _ _) (by intro k hk; omega) (XY.turn 9) (fun _ => rfl)
    (DI s w.heap.size w) (DX s w.heap.size w) (by rw [hVs]; exact DI.own s w.heap.size w) (by rw [hVs]; exact DX.own s w.heap.size w)
    ⟨rfl, v0, v1, v2, hVb, by omega⟩
    (fun x B => { tmps := #[.string s, .pointer (some ⟨w.heap.size, 0, none⟩), .pointer (some ⟨w.heap.size + 1, 0, none⟩), .pointer (some ⟨w.heap.size + 1 + 1, 0, none⟩), .int .i64 x.e, .pointer (some ⟨B, 0, none⟩), .string s, .func (.func 46) #[] #[.pointer (some ⟨w.heap.size + 1 + 1 + 1, 0, none⟩), .pointer (some ⟨w.heap.size + 1 + 1 + 1 + 1, 0, none⟩)], .int .i64 x.e, .agg #[.bool x.i.list, .string ⟨x.i.bytes.toArray⟩, .slice x.a x.i.kids.length x.cap], undef, undef, undef, undef, undef, undef], defers := [] })
    (fun x => .cells #[.bool x.i.list, .string ⟨x.i.bytes.toArray⟩, .slice x.a x.i.kids.length x.cap] 24) ?assign ?body ?done ?stop
  case assign =>
    intro l x W K hK
    simp only [X.encs]
    gi_wp2
    exact hK
  case body =>
    rintro l pre x W0 W1 hlt0 ⟨rfl, b0, b1, b2, hbw, hsz⟩ hb ⟨hpl, ht⟩
    have s1 := hb.size
    obtain ⟨IB, hIB⟩ : ∃ IB : ByteArray, (⟨x.i.bytes.toArray⟩ : ByteArray) = IB := ⟨_, rfl⟩
    obtain ⟨G, hG⟩ : ∃ G : World, G = W1.alloc (.cells #[.bool x.i.list, .string ⟨x.i.bytes.toArray⟩, .slice x.a x.i.kids.length x.cap] 24) := ⟨_, rfl⟩
    rw [← hG]
    have gs : G.heap.size = W1.heap.size + 1 := by rw [hG]; simp
    have gb : Below W1.heap.size W1 G := by rw [hG]; exact (Below.refl _ _).alloc (Nat.le_refl _) _
    have gb0 : Below W0.heap.size W0 G := hb.trans (gb.mono s1)
    obtain ⟨k0, k1, k2⟩ : K3 G W1.heap.size 0 (.bool x.i.list) (.string ⟨x.i.bytes.toArray⟩) (.slice x.a x.i.kids.length x.cap) := by rw [hG]; exact K3.alloc3 _ _ _ _ _
    rw [Nat.zero_add] at k1 k2
    clear hG
    have c0 : Boxed G w.heap.size 9 (.string s) := (gb0.block _ b0.lt).trans b0
    have c1 := (gb0.block (w.heap.size + 1) (by omega)).trans b1
    have c2 : Boxed G (w.heap.size + 1 + 1) 26 (.int .i64 0) := (gb0.block _ b2.lt).trans b2
    have m0 := c0.cell
    have m2 := c2.cell
    have n2 := c2.frozen
    have z0 : G.cell? ⟨w.heap.size + 1, 0, none⟩ = some (.bool false) := by rw [Lib.cell_of_heap c1]; rfl
    have z1 : G.cell? ⟨w.heap.size + 1, 1, none⟩ = some (.string ⟨#[]⟩) := by rw [Lib.cell_of_heap c1]; rfl
    have z2 : G.cell? ⟨w.heap.size + 1, 2, none⟩ = some (.slice none 0 0) := by rw [Lib.cell_of_heap c1]; rfl
    have fz := Lib.frozen_of_heap c1
    have bG : Below w.heap.size w G := hbw.trans (gb0.mono (by omega))
    have tG : Tr G 9 (w.heap.size + 5) G.heap.size (.bool x.i.list) (.string ⟨x.i.bytes.toArray⟩) (.slice x.a x.i.kids.length x.cap) x.i := (Tr.kept 9 _ _ _ _ _ _ (fun k _ k2 => gb.block k k2) ht).wider (by omega) (by omega)
    have HT : Hid _ := And.intro tG ht
    have HG : Hid _ := And.intro c0 (And.intro c1 (And.intro c2 bG))
    clear tG ht c0 c1 c2 bG b0 b1 b2
    rw [hIB] at k1 ⊢
    by_cases he : x.e < s.size
    · have he' : (x.e : Int) < (s.size : Int) := by omega
      gi_wp2
      obtain ⟨c0, c1, c2, bG⟩ := HG.out
      exact ⟨KeepsFrom.refl _ _, .inl ⟨rfl, x, rfl, he, rfl, c0, c1, c2, bG, by omega⟩⟩
    · have he' : ¬ (x.e : Int) < (s.size : Int) := by omega
      gi_wp2
      obtain ⟨c0, c1, c2, bG⟩ := HG.out
      have tG := HT.out.1
      rw [← hIB]
      refine ⟨KeepsOthers.from ((((KeepsOthers.setCell _ _ _).trans (KeepsOthers.setCell _ _ _)).trans (KeepsOthers.setCell _ _ _)).trans (KeepsOthers.setCell _ _ _)) _, .inr ⟨rfl, x, rfl, by omega, ?_, ?_, ?_, by simp [World.setCell]; omega, ?_⟩⟩
      · rw [Below.heap_setCell _ _ _ _ (by simp)]
        exact set3_block c1 _ _ _
      · exact Boxed.set _ (boxed_other (boxed_other (boxed_other c2 _ _ (by simp)) _ _ (by simp)) _ _ (by simp))
      · exact (((bG.setCell (by simp) _).setCell (by simp) _).setCell (by simp) _).setCell (by simp; omega) _
      · refine Tr.wider (Tr.kept 9 _ _ _ _ _ _ (fun k k1 _ => ?_) tG) (Nat.le_refl _) (by simp [World.setCell])
        rw [Below.heap_setCell _ _ _ _ (by simp; omega), Below.heap_setCell _ _ _ _ (by simp; omega), Below.heap_setCell _ _ _ _ (by simp; omega), Below.heap_setCell _ _ _ _ (by simp; omega)]
  case done =>
    rintro D xs W0 W hD hlt ⟨p, he, hl, hcase⟩ ⟨rfl, b0, b1, b2, hbw, hsz⟩ hb hK
    obtain rfl := Im.Eats.zero he
    obtain rfl : R = none := by
      refine HR.out.symm.trans ?_
      have : Im.read Im.body 8 s.data.toList = none := by
        rcases hcase with h | ⟨_, h⟩
        · have : s.data.toList = [] := List.eq_nil_of_length_eq_zero (by rw [← Lib.size_eq]; omega)
          rw [this]
          exact Im.read_none rfl
        · simpa using h
      unfold Im.dec
      rw [this]
    have s1 := hb.size
    have c1 := (hb.block (w.heap.size + 1) (by omega)).trans b1
    have c2 : Boxed W (w.heap.size + 1 + 1) 26 (.int .i64 0) := (hb.block _ b2.lt).trans b2
    have m2 := c2.cell
    have n2 := c2.frozen
    have z0 : W.cell? ⟨w.heap.size + 1, 0, none⟩ = some (.bool false) := by rw [Lib.cell_of_heap c1]; rfl
    have z1 : W.cell? ⟨w.heap.size + 1, 1, none⟩ = some (.string ⟨#[]⟩) := by rw [Lib.cell_of_heap c1]; rfl
    have z2 : W.cell? ⟨w.heap.size + 1, 2, none⟩ = some (.slice none 0 0) := by rw [Lib.cell_of_heap c1]; rfl
    have fz := Lib.frozen_of_heap c1
    have bW : Below w.heap.size w W := hbw.trans (hb.mono (by omega))
    gi_wp2
    have hDn : D ≠ w.heap.size + 1 ∧ D ≠ w.heap.size + 1 + 1 := by omega
    obtain ⟨F, hF⟩ : ∃ F : World, F = (((W.setCell ⟨w.heap.size + 1, 0, none⟩ (.bool false)).setCell ⟨w.heap.size + 1, 1, none⟩ (.string ⟨#[]⟩)).setCell ⟨w.heap.size + 1, 2, none⟩ (.slice none 0 0)).setCell ⟨w.heap.size + 1 + 1, 0, none⟩ (.int .i64 4) := ⟨_, rfl⟩
    rw [← hF]
    have hKF : F.heap[D]? = some (.deferred (some [])) := by rw [hF, Below.heap_setCell _ _ _ _ hDn.2, Below.heap_setCell _ _ _ _ hDn.1, Below.heap_setCell _ _ _ _ hDn.1, Below.heap_setCell _ _ _ _ hDn.1]; exact hK
    have f1 : F.heap[w.heap.size + 1]? = some (.cells #[.bool false, .string ⟨#[]⟩, .slice none 0 0] 24 (0, 0)) := by rw [hF, Below.heap_setCell _ _ _ _ (by simp)]; exact set3_block c1 _ _ _
    have f2 : Boxed F (w.heap.size + 1 + 1) 26 (.int .i64 4) := by rw [hF]; exact Boxed.set _ (boxed_other (boxed_other (boxed_other c2 _ _ (by simp)) _ _ (by simp)) _ _ (by simp))
    have bF : Below w.heap.size w F := by rw [hF]; exact (((bW.setCell (by simp) _).setCell (by simp) _).setCell (by simp) _).setCell (by simp; omega) _
    have hFs := bF.size
    have hDF : D < F.heap.size := (Array.getElem?_eq_some_iff.1 hKF).1
    clear hF
    have g1 : (F.putObj D (.deferred none)).heap[w.heap.size + 1]? = _ := (World.putObj_heap_other (Ne.symm hDn.1)).trans f1
    have g2 : (F.putObj D (.deferred none)).heap[w.heap.size + 1 + 1]? = _ := (World.putObj_heap_other (Ne.symm hDn.2)).trans f2
    refine ⟨by simp, .inl ⟨_, _, rfl, run_takeDeferred hKF, ?_⟩⟩
    exact ⟨.tuple #[.agg #[.bool false, .string ⟨#[]⟩, .slice none 0 0], .int .i64 4], by simp [results, Tryd.results11, go_sem, Lib.cell_of_heap g1, Lib.cell_of_heap g2], rfl, bF.grown (grownBy_putObj' F D _) (by omega) (fun k e => by cases e; omega)⟩
  case stop =>
    rintro D c pre W0 W hD hlt ⟨p, he, hl⟩ (⟨rfl, x, rfl, hx, _, b0, b1, b2, hbw, hsz⟩ | ⟨rfl, x, rfl, hx, b1, b2, hbw, hsz, ht⟩) hb hK
    · have hr := Im.Eats.one he
      have hpe : p = x.e := hl.symm.trans (lastE_snoc [] x)
      subst hpe
      obtain rfl : R = none := by
        refine HR.out.symm.trans ?_
        unfold Im.dec
        rw [hr]
        simp only
        rw [if_neg (by rw [← Lib.size_eq]; omega)]
      have s1 := hb.size
      have c1 := (hb.block (w.heap.size + 1) (by omega)).trans b1
      have c2 : Boxed W (w.heap.size + 1 + 1) 26 (.int .i64 0) := (hb.block _ b2.lt).trans b2
      have m2 := c2.cell
      have n2 := c2.frozen
      have z0 : W.cell? ⟨w.heap.size + 1, 0, none⟩ = some (.bool false) := by rw [Lib.cell_of_heap c1]; rfl
      have z1 : W.cell? ⟨w.heap.size + 1, 1, none⟩ = some (.string ⟨#[]⟩) := by rw [Lib.cell_of_heap c1]; rfl
      have z2 : W.cell? ⟨w.heap.size + 1, 2, none⟩ = some (.slice none 0 0) := by rw [Lib.cell_of_heap c1]; rfl
      have fz := Lib.frozen_of_heap c1
      have bW : Below w.heap.size w W := hbw.trans (hb.mono (by omega))
      gi_wp2
      have hDn : D ≠ w.heap.size + 1 ∧ D ≠ w.heap.size + 1 + 1 := by omega
      obtain ⟨F, hF⟩ : ∃ F : World, F = (((W.setCell ⟨w.heap.size + 1, 0, none⟩ (.bool false)).setCell ⟨w.heap.size + 1, 1, none⟩ (.string ⟨#[]⟩)).setCell ⟨w.heap.size + 1, 2, none⟩ (.slice none 0 0)).setCell ⟨w.heap.size + 1 + 1, 0, none⟩ (.int .i64 4) := ⟨_, rfl⟩
      rw [← hF]
      have hKF : F.heap[D]? = some (.deferred (some [])) := by rw [hF, Below.heap_setCell _ _ _ _ hDn.2, Below.heap_setCell _ _ _ _ hDn.1, Below.heap_setCell _ _ _ _ hDn.1, Below.heap_setCell _ _ _ _ hDn.1]; exact hK
      have f1 : F.heap[w.heap.size + 1]? = some (.cells #[.bool false, .string ⟨#[]⟩, .slice none 0 0] 24 (0, 0)) := by rw [hF, Below.heap_setCell _ _ _ _ (by simp)]; exact set3_block c1 _ _ _
      have f2 : Boxed F (w.heap.size + 1 + 1) 26 (.int .i64 4) := by rw [hF]; exact Boxed.set _ (boxed_other (boxed_other (boxed_other c2 _ _ (by simp)) _ _ (by simp)) _ _ (by simp))
      have bF : Below w.heap.size w F := by rw [hF]; exact (((bW.setCell (by simp) _).setCell (by simp) _).setCell (by simp) _).setCell (by simp; omega) _
      have hFs := bF.size
      have hDF : D < F.heap.size := (Array.getElem?_eq_some_iff.1 hKF).1
      clear hF
      have g1 : (F.putObj D (.deferred none)).heap[w.heap.size + 1]? = _ := (World.putObj_heap_other (Ne.symm hDn.1)).trans f1
      have g2 : (F.putObj D (.deferred none)).heap[w.heap.size + 1 + 1]? = _ := (World.putObj_heap_other (Ne.symm hDn.2)).trans f2
      refine ⟨by simp, .inl ⟨_, _, rfl, run_takeDeferred hKF, ?_⟩⟩
      exact ⟨.tuple #[.agg #[.bool false, .string ⟨#[]⟩, .slice none 0 0], .int .i64 4], by simp [results, Tryd.results11, go_sem, Lib.cell_of_heap g1, Lib.cell_of_heap g2], rfl, bF.grown (grownBy_putObj' F D _) (by omega) (fun k e => by cases e; omega)⟩
    · have hr := Im.Eats.one he
      have hpe : p = x.e := hl.symm.trans (lastE_snoc [] x)
      subst hpe
      obtain rfl : R = some x.i := by
        refine HR.out.symm.trans ?_
        unfold Im.dec
        rw [hr]
        simp only
        have := (Im.read_fair Im.body_body 8 _ _ _ hr).2
        rw [if_pos (by rw [← Lib.size_eq] at this ⊢; omega)]
      have s1 := hb.size
      gi_wp2
      have hDn : D ≠ w.heap.size + 1 ∧ D ≠ w.heap.size + 1 + 1 := by omega
      have c1 := (hb.block (w.heap.size + 1) (by omega)).trans b1
      have c2 : Boxed W (w.heap.size + 1 + 1) 26 (.int .i64 0) := (hb.block _ b2.lt).trans b2
      have bW : Below w.heap.size w W := hbw.trans (hb.mono (by omega))
      have g1 : (W.putObj D (.deferred none)).heap[w.heap.size + 1]? = _ := (World.putObj_heap_other (Ne.symm hDn.1)).trans c1
      have g2 : (W.putObj D (.deferred none)).heap[w.heap.size + 1 + 1]? = _ := (World.putObj_heap_other (Ne.symm hDn.2)).trans c2
      have hgr := grownBy_putObj' W D (.deferred none)
      have tW : Tr W 9 (w.heap.size + 5) W.heap.size (.bool x.i.list) (.string ⟨x.i.bytes.toArray⟩) (.slice x.a x.i.kids.length x.cap) x.i := (Tr.kept 9 _ _ _ _ _ _ (fun k _ k2 => hb.block k k2) ht).wider (Nat.le_refl _) s1
      have tF := Tr.wider (lo' := w.heap.size) (Tr.turn tW hgr (fun r e => by cases e; exact ⟨_, hK, rfl⟩)) (by omega) (Nat.le_refl _)
      have Ht : Hid _ := tF
      clear tF tW ht
      refine ⟨by simp, .inl ⟨_, _, rfl, run_takeDeferred hK, ?_⟩⟩
      exact ⟨.tuple #[.agg #[.bool x.i.list, .string ⟨x.i.bytes.toArray⟩, .slice x.a x.i.kids.length x.cap], .int .i64 0], by simp [results, Tryd.results11, go_sem, Lib.cell_of_heap g1, Lib.cell_of_heap g2], ⟨x.a, x.cap, rfl, Ht.out⟩, bW.grown hgr (by omega) (fun k e => by cases e; omega)⟩
end Go.Proofs.YtpibpdpedjinhaaDoor
