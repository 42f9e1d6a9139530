/- A made item stays as it is where blocks that hold no cells turn; the append of a row of the call's own, within a round. -/
import Derived.Test.YtpibpdpedjinhaaDoorWTree
import Derived.RangeFuncBox
import Derived.RangeFuncWrites
import Derived.OwnWalkIn
namespace Go.Proofs.YtpibpdpedjinhaaDoor
open Go.RowKit Go.Joins

theorem Tr.keptC {w w' : World} : ∀ (n lo hi : Nat) (c0 c1 c2 : Value) (i : Im.It), (∀ k o, lo ≤ k → k < hi → w.heap[k]? = some o → o.isCells = true → w'.heap[k]? = some o) → Tr w n lo hi c0 c1 c2 i → Tr w' n lo hi c0 c1 c2 i
  | 0, _, _, _, _, _, _, _, h => h
  | n + 1, lo, hi, c0, c1, c2, i, hk, h => by
    obtain ⟨h0, xs, L, H, h1, h2, h3, h4, h5⟩ := h
    refine ⟨h0, xs, L, H, ⟨h1.1, ?_⟩, h2, h3, h4, fun j hj => ?_⟩
    · rcases h1.2 with hz | ⟨g, cap, cur, hv, hg, hh, r⟩
      · exact .inl hz
      · exact .inr ⟨g, cap, cur, hv, hg, hk g _ hg (h2 g (by rw [hv]; rfl)) hh rfl, r⟩
    · obtain ⟨d0, d1, d2, e0, e1, e2, e3⟩ := h5 j hj
      have := h3 j hj
      exact ⟨d0, d1, d2, e0, e1, e2, Tr.keptC n (L j) (H j) d0 d1 d2 _ (fun k o a b => hk k o (by omega) (by omega)) e3⟩
theorem Row.keptC {w w' : World} {n lo hi : Nat} {v : Value} {ks : List Im.It} (h : Row w n lo hi v ks) (hk : ∀ k o, lo ≤ k → k < hi → w.heap[k]? = some o → o.isCells = true → w'.heap[k]? = some o) : Row w' n lo hi v ks :=
  (Tr.keptC (n + 1) lo hi (.bool true) (.string ⟨#[]⟩) v ⟨true, [], ks⟩ hk ⟨⟨rfl, rfl⟩, h⟩).2
/-- what a turn of a block that holds no cells leaves -/
theorem grown_cells {A B : World} {row : Option Nat} (hg : A.grownBy B row) (hr : ∀ r, row = some r → ∃ o : Obj, A.heap[r]? = some o ∧ o.isCells = false) : ∀ (k : Nat) (o : Obj), A.heap[k]? = some o → o.isCells = true → B.heap[k]? = some o := by
  intro k o hk ho
  refine (hg.block k (Array.getElem?_eq_some_iff.1 hk).1 (fun e => ?_)).trans hk
  obtain ⟨o', h1, h2⟩ := hr k e.symm
  rw [hk] at h1
  cases h1
  rw [ho] at h2
  cases h2
theorem Row.turn {A B : World} {row : Option Nat} {n lo : Nat} {v : Value} {ks : List Im.It} (h : Row A n lo A.heap.size v ks) (hg : A.grownBy B row) (hr : ∀ r, row = some r → ∃ o : Obj, A.heap[r]? = some o ∧ o.isCells = false) : Row B n lo B.heap.size v ks :=
  (h.keptC (fun k o _ _ => grown_cells hg hr k o)).wider (Nat.le_refl _) hg.size
theorem Tr.turn {A B : World} {row : Option Nat} {n lo : Nat} {c0 c1 c2 : Value} {i : Im.It} (h : Tr A n lo A.heap.size c0 c1 c2 i) (hg : A.grownBy B row) (hr : ∀ r, row = some r → ∃ o : Obj, A.heap[r]? = some o ∧ o.isCells = false) : Tr B n lo B.heap.size c0 c1 c2 i :=
  (Tr.keptC n _ _ _ _ _ _ (fun k o _ _ => grown_cells hg hr k o) h).wider (Nat.le_refl _) hg.size

theorem wpListIn_append_mine {F : Fence} {n : Nat} {P : Program} (w : World) {ops : Array Oper} {rest : List Oper} {o : Oper} {a : Act} {Q : Exit → Act → World → Prop} (hgd : o.guard = none) (s x : Operand) (t : TypeId)
    (ho : o.op = .call { callee := .builtin .append, args := #[s, x], argTypes := #[t, t] })
    (base : Nat) (e : TypeId) (i : TypeInfo) (z : Value) (size bytes : Nat) (ht : P.underlying t = some (.slice e)) (hi : P.info? e = some i) (hz : i.zero = some z)
    (hsize : i.size = size) (hby : i.bytes = bytes) (hzs : z.cells.size = size) (hsz : 0 < size)
    (v : Value) (k : Nat) (xs : List Value) (hs : a.eval s = v) (hown : w.ownsRow base e size v k xs)
    (ad : Addr) (m c : Nat) (news : List Value) (hx : a.eval x = .slice (some ad) m c) (hm : 0 < m) (hl : news.length = m * size) (hnews : ∀ j u, news[j]? = some u → w.cell? (ad.add j) = some u) (h1 : ∀ u ∈ news, u.oneCell' = true)
    (h63 : k + m ≤ maxLen) (hbytes : (k + m) * bytes ≤ 140737488355328) (hbase : base ≤ w.heap.size)
    (h : ∀ v' w', w'.ownsRow base e size v' (k + m) (xs ++ news) → w.grownBy w' v.ownBlock → (v'.ownBlock = v.ownBlock ∨ ∃ g, v'.ownBlock = some g ∧ w.heap.size ≤ g) → wpListIn F n P ops Q rest (a.put o.dst v') w') : wpListIn F n P ops Q (o :: rest) a w := by
  refine wpListIn_plain hgd fun K hK => ?_
  obtain ⟨v', w', hr, h2, h3, h4⟩ := append_mine (P := P) w base t o.type e i z size bytes ht hi hz hsize hby hzs hsz v k xs hown ad m c news hm hl hnews h1 h63 hbytes hbase
  unfold Oper.wpIn
  refine ⟨?_, ?_⟩
  · simp [Oper.about, ho, resolve, Target.leads, Sem.run_pure]
  · rw [Oper.semAt_plain F _ _ (by rw [ho]; intro c hc'; cases hc')]
    simp [execOp, ho, resolve, invoke, builtin, hs, hx, hr, Result.andThen]
    exact hK _ _ (h v' w' h2 h3 h4)
/-- an append as one step of a region, within a round: its run is known -/
theorem stepIn_append {F : Fence} {n : Nat} {P : Program} {w w' : World} {o : Oper} {a : Act} {K : Act → World → Prop} {Q : Exit → Act → World → Prop} {s x : Operand} {t : TypeId} {v u v' : Value} (hw : Bool) (hww : hw = true)
    (ho : o.op = .call { callee := .builtin .append, args := #[s, x], argTypes := #[t, t] }) (hs : a.eval s = v) (hx : a.eval x = u) (hr : (Builtin.append_ #[t, t] o.type #[v, u]).run P w = .ok v' w') (hK : K (a.put o.dst v') w') {E : Prop} :
    if hw = true then Oper.wpIn F n P o a w K Q else E := by
  rw [if_pos hww]
  unfold Oper.wpIn
  refine ⟨?_, ?_⟩
  · simp [Oper.about, ho, resolve, Target.leads, Sem.run_pure]
  · rw [Oper.semAt_plain F _ _ (by rw [ho]; intro c hc'; cases hc')]
    simp [execOp, ho, resolve, invoke, builtin, hs, hx, hr, Result.andThen]
    exact hK
/-- three cells of a row are written over -/
theorem own_set3 {w : World} {base e k g cap : Nat} {xs : List Value} {z0 z1 z2 : Value} (h : w.ownsRow base e 3 (.slice (some ⟨g, 0, none⟩) (k + 1) cap) (k + 1) (xs ++ [z0, z1, z2])) (hx : xs.length = k * 3) (d0 d1 d2 : Value) :
    (((w.setCell ⟨g, k * 3, none⟩ d0).setCell ⟨g, k * 3 + 1, none⟩ d1).setCell ⟨g, k * 3 + 2, none⟩ d2).ownsRow base e 3 (.slice (some ⟨g, 0, none⟩) (k + 1) cap) (k + 1) (xs ++ [d0, d1, d2]) := by
  refine ⟨by simp [hx]; omega, ?_⟩
  rcases h.2 with ⟨h1, _⟩ | ⟨g', cap', cur, hv, hb, hh, hnc, hcm, hcs, ht⟩
  · simp at h1
  · simp only [Value.slice.injEq, Option.some.injEq, Addr.mk.injEq, and_true, true_and] at hv
    obtain ⟨rfl, rfl⟩ := hv
    have a1 := block_setCell hh (i := k * 3) d0
    have a2 := block_setCell a1 (i := k * 3 + 1) d1
    have a3 := block_setCell a2 (i := k * 3 + 2) d2
    refine .inr ⟨g, cap, _, rfl, hb, a3, hnc, hcm, by simp [hcs], ?_⟩
    have hlen : (k + 1) * 3 ≤ cur.toList.length := by rw [Array.length_toList, hcs]; exact Nat.mul_le_mul_right 3 hnc
    have hxs : cur.toList.take (k * 3) = xs := by
      have := congrArg (List.take (k * 3)) ht
      rw [List.take_take, Nat.min_eq_left (by omega)] at this
      rw [this, ← hx]
      simp
    apply List.ext_getElem?
    intro i
    simp only [Array.toList_setIfInBounds, List.getElem?_take]
    by_cases h3 : i < (k + 1) * 3
    · rw [if_pos h3]
      by_cases hi : i < k * 3
      · rw [List.getElem?_append_left (by omega), ← hxs, List.getElem?_take, if_pos hi]
        simp only [List.getElem?_set]
        rw [if_neg (by omega), if_neg (by omega), if_neg (by omega)]
      · rw [List.getElem?_append_right (by omega), hx]
        simp only [List.getElem?_set, List.length_set]
        rcases (by omega : i = k * 3 ∨ i = k * 3 + 1 ∨ i = k * 3 + 2) with rfl | rfl | rfl
        · rw [if_neg (by omega), if_neg (by omega), if_pos rfl, if_pos (by omega), Nat.sub_self]; rfl
        · rw [if_neg (by omega), if_pos rfl, if_pos (by omega), show k * 3 + 1 - k * 3 = 1 from by omega]; rfl
        · rw [if_pos rfl, if_pos (by omega), show k * 3 + 2 - k * 3 = 2 from by omega]; rfl
    · rw [if_neg h3, List.getElem?_eq_none (by simp [hx]; omega)]
/-- a row that owns something has the shape of a slice of a block -/
theorem owns_shape {w : World} {base e size k : Nat} {v : Value} {xs : List Value} (h : w.ownsRow base e size v k xs) (hk : 0 < k) : ∃ g cap, v = .slice (some ⟨g, 0, none⟩) k cap := by
  rcases h.2 with ⟨_, h0⟩ | ⟨g, cap, cur, rfl, _⟩
  · omega
  · exact ⟨g, cap, rfl⟩
theorem owns_slice {w : World} {base e size k : Nat} {v : Value} {xs : List Value} (h : w.ownsRow base e size v k xs) : ∃ a cap, v = .slice a k cap := by
  rcases h.2 with ⟨rfl, h0⟩ | ⟨g, cap, cur, rfl, _⟩
  · exact ⟨none, 0, by rw [h0]⟩
  · exact ⟨_, cap, rfl⟩
theorem owns_cells {w : World} {base e size k : Nat} {v : Value} {xs : List Value} (h : w.ownsRow base e size v k xs) (g : Nat) (o : Obj) (hg : v.ownBlock = some g) (ho : w.heap[g]? = some o) : o.isCells = true := by
  rcases h.2 with ⟨rfl, h0⟩ | ⟨g', cap, cur, rfl, _, hh, _⟩
  · simp [Value.ownBlock] at hg
  · simp [Value.ownBlock] at hg
    subst hg
    rw [hh] at ho
    cases ho
    rfl
theorem addr_add' (b n : Nat) : (⟨b, 0, none⟩ : Addr).add n = ⟨b, n, none⟩ := by
  unfold Addr.add
  split
  · rename_i h; subst h; rfl
  · simp
theorem own_frozen {w : World} {base e size k g l cap j : Nat} {xs : List Value} (h : w.ownsRow base e size (.slice (some ⟨g, 0, none⟩) l cap) k xs) : w.frozen? ⟨g, j, none⟩ = false := by
  rcases h.2 with ⟨h1, _⟩ | ⟨g', cap', cur, hv, hb, hh, _⟩
  · simp at h1
  · simp only [Value.slice.injEq, Option.some.injEq, Addr.mk.injEq, and_true] at hv
    obtain ⟨rfl, _⟩ := hv
    exact Lib.frozen_of_heap hh j
end Go.Proofs.YtpibpdpedjinhaaDoor
