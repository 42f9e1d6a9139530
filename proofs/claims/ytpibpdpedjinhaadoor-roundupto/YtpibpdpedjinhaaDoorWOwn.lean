/- An item with lists of its own, and the walk of tributarylaw.ownItem, which makes one. -/
import Derived.Test.YtpibpdpedjinhaaDoorWEncode
namespace Go.Proofs.YtpibpdpedjinhaaDoor
open Go.RowKit Go.Joins

/-- append onto a row of the call's own: it stays where it is, or comes to lie in a new block -/
theorem append_mine {P : Program} (w : World) (base : Nat) (t ty e : TypeId) (i : TypeInfo) (z : Value) (size bytes : Nat) (ht : P.underlying t = some (.slice e)) (hi : P.info? e = some i) (hz : i.zero = some z)
    (hsize : i.size = size) (hby : i.bytes = bytes) (hzs : z.cells.size = size) (hsz : 0 < size)
    (v : Value) (n : Nat) (xs : List Value) (hown : w.ownsRow base e size v n xs)
    (a : Addr) (m c : Nat) (news : List Value) (hm : 0 < m) (hl : news.length = m * size) (hnews : ∀ j u, news[j]? = some u → w.cell? (a.add j) = some u) (h1 : ∀ u ∈ news, u.oneCell' = true)
    (h63 : n + m ≤ maxLen) (hbytes : (n + m) * bytes ≤ 140737488355328) (hbase : base ≤ w.heap.size) :
    ∃ v' w', (Builtin.append_ #[t, t] ty #[v, .slice (some a) m c]).run P w = .ok v' w' ∧ w'.ownsRow base e size v' (n + m) (xs ++ news) ∧ w.grownBy w' v.ownBlock ∧ (v'.ownBlock = v.ownBlock ∨ ∃ g, v'.ownBlock = some g ∧ w.heap.size ≤ g) := by
  obtain ⟨v', w', hr, h2, h3, h4⟩ := run_append_own (P := P) w base t ty e i z size bytes ht hi hz hsize hby hzs hsz v n xs hown a m c news hl hnews h1 h63 hbytes hbase
  refine ⟨v', w', hr, h2, h3, ?_⟩
  have hsmall : n + m ≤ 9223372036854775807 := by simp only [maxLen] at h63; omega
  rcases hown.2 with ⟨rfl, rfl⟩ | ⟨g, cap, cur, rfl, hbg, hg, hnc, hcm, hcs, htake⟩
  · right
    have hx : xs = [] := List.eq_nil_of_length_eq_zero (by simpa using hown.1)
    subst hx
    obtain ⟨v2, w2, hr2, g2, _, g4⟩ := run_append_own (P := P) w w.heap.size t ty e i z size bytes ht hi hz hsize hby hzs hsz (.slice none 0 0) 0 [] (World.ownsRow_nil w _ e size) a m c news hl hnews h1 h63 hbytes (Nat.le_refl _)
    rw [hr] at hr2
    simp only [Result.ok.injEq] at hr2
    obtain ⟨rfl, rfl⟩ := hr2
    rcases g2.2 with ⟨e1, _⟩ | ⟨g, cap, cur, rfl, hge, _⟩
    · have := (g4.1 e1).2; omega
    · exact ⟨g, rfl, hge⟩
  · by_cases hroom : n + m ≤ cap
    · left
      have hfit : n * i.size + news.length ≤ cur.size := by rw [hl, hcs, hsize, ← Nat.add_mul]; exact Nat.mul_le_mul_right _ hroom
      have hr2 := run_append_room (P := P) w t ty e i ht hi g n cap cur hg a m c news (by rw [hsize]; exact hl) hnews h1 hroom hfit
      rw [hr] at hr2
      simp only [Result.ok.injEq] at hr2
      rw [hr2.1]
      rfl
    · right
      subst hsize hby
      have holds : ∀ j u, xs[j]? = some u → w.cell? ((⟨g, 0, none⟩ : Addr).add j) = some u := hown.cells (g := g) rfl
      have hr2 := run_append_grow (P := P) w t ty e i z ht hi hz ⟨g, 0, none⟩ n cap xs hown.1 holds a m c news hl hnews (by omega) (by omega) (growslice_fits (by omega) hbytes)
      rw [hr] at hr2
      simp only [Result.ok.injEq] at hr2
      exact ⟨w.heap.size, by rw [hr2.1]; rfl, Nat.le_refl _⟩

theorem wpList_append_mine {P : Program} (w : World) {ops : Array Oper} {rest : List Oper} {o : Oper} {a : Act} {Q : Exit → Act → World → Prop} (hgd : o.guard = none) (s x : Operand) (t : TypeId)
    (ho : o.op = .call { callee := .builtin .append, args := #[s, x], argTypes := #[t, t] })
    (base : Nat) (e : TypeId) (i : TypeInfo) (z : Value) (size bytes : Nat) (ht : P.underlying t = some (.slice e)) (hi : P.info? e = some i) (hz : i.zero = some z)
    (hsize : i.size = size) (hby : i.bytes = bytes) (hzs : z.cells.size = size) (hsz : 0 < size)
    (v : Value) (n : Nat) (xs : List Value) (hs : a.eval s = v) (hown : w.ownsRow base e size v n xs)
    (ad : Addr) (m c : Nat) (news : List Value) (hx : a.eval x = .slice (some ad) m c) (hm : 0 < m) (hl : news.length = m * size) (hnews : ∀ j u, news[j]? = some u → w.cell? (ad.add j) = some u) (h1 : ∀ u ∈ news, u.oneCell' = true)
    (h63 : n + m ≤ maxLen) (hbytes : (n + m) * bytes ≤ 140737488355328) (hbase : base ≤ w.heap.size)
    (h : ∀ v' w', w'.ownsRow base e size v' (n + m) (xs ++ news) → w.grownBy w' v.ownBlock → (v'.ownBlock = v.ownBlock ∨ ∃ g, v'.ownBlock = some g ∧ w.heap.size ≤ g) → wpList P ops Q rest (a.put o.dst v') w') : wpList P ops Q (o :: rest) a w := by
  refine wpList_plain hgd fun K hK => ?_
  obtain ⟨v', w', hr, h2, h3, h4⟩ := append_mine (P := P) w base t o.type e i z size bytes ht hi hz hsize hby hzs hsz v n xs hown ad m c news hm hl hnews h1 h63 hbytes hbase
  unfold Oper.wp execOp
  simp only [ho, resolve, invoke, builtin, Sem.run_bind, Sem.run_pure, Result.andThen_ok, List.map_toArray, List.map_cons, List.map_nil, hs, hx, hr]
  exact hK _ _ (h v' w' h2 h3 h4)

/-- the three cells of an item whose lists are all its own: they lie in blocks from lo on, below hi, each in one of its own, with one element more behind the end -/
def Own (w : World) : Nat → Nat → Nat → Value → Value → Value → Im.It → Prop
  | 0, _, _, _, _, _, _ => False
  | n + 1, lo, hi, c0, c1, c2, i => c0 = .bool i.list ∧ c1 = .string ⟨i.bytes.toArray⟩ ∧ ∃ g cap cur, c2 = .slice (some ⟨g, 0, none⟩) i.kids.length cap ∧ lo ≤ g ∧ g < hi ∧ w.heap[g]? = some (.cells cur 24 (0, 0)) ∧ i.kids.length + 1 ≤ cap ∧ cap ≤ maxLen ∧ cur.size = cap * 3 ∧
      (cur[i.kids.length * 3]? = some (.bool false) ∧ cur[i.kids.length * 3 + 1]? = some (.string ⟨#[115, 112, 97, 114, 101]⟩) ∧ cur[i.kids.length * 3 + 2]? = some (.slice none 0 0)) ∧
      ∃ L H : Nat → Nat, (∀ j, j < i.kids.length → lo ≤ L j ∧ L j ≤ H j ∧ H j ≤ hi ∧ (g < L j ∨ H j ≤ g)) ∧ (∀ j k, j < k → k < i.kids.length → H j ≤ L k) ∧
        ∀ (j : Nat) (hj : j < i.kids.length), ∃ d0 d1 d2, cur[j * 3]? = some d0 ∧ cur[j * 3 + 1]? = some d1 ∧ cur[j * 3 + 2]? = some d2 ∧ Own w n (L j) (H j) d0 d1 d2 (i.kids[j])
theorem Own.kept {w w' : World} : ∀ (n lo hi : Nat) (c0 c1 c2 : Value) (i : Im.It), (∀ k, lo ≤ k → k < hi → w'.heap[k]? = w.heap[k]?) → Own w n lo hi c0 c1 c2 i → Own w' n lo hi c0 c1 c2 i
  | 0, _, _, _, _, _, _, _, h => h
  | n + 1, lo, hi, c0, c1, c2, i, hk, h => by
    obtain ⟨h0, h1, g, cap, cur, h2, h3, h4, h5, h6, h7, h8, h9, L, H, h10, h11, h12⟩ := h
    refine ⟨h0, h1, g, cap, cur, h2, h3, h4, (hk g h3 h4).trans h5, h6, h7, h8, h9, L, H, h10, h11, fun j hj => ?_⟩
    obtain ⟨d0, d1, d2, e0, e1, e2, e3⟩ := h12 j hj
    have := h10 j hj
    exact ⟨d0, d1, d2, e0, e1, e2, Own.kept n (L j) (H j) d0 d1 d2 _ (fun k a b => hk k (by omega) (by omega)) e3⟩
theorem Own.inn {w : World} {B : Nat} : ∀ (n lo hi : Nat) (c0 c1 c2 : Value) (i : Im.It), hi ≤ B → Own w n lo hi c0 c1 c2 i → In B w n c0 c1 c2 i
  | 0, _, _, _, _, _, _, _, h => h
  | n + 1, lo, hi, c0, c1, c2, i, hB, h => by
    obtain ⟨h0, h1, g, cap, cur, h2, h3, h4, h5, h6, h7, h8, h9, L, H, h10, h11, h12⟩ := h
    refine ⟨h0, h1, some ⟨g, 0, none⟩, cap, h2, fun _ => ⟨g, 0, rfl, by omega, fun j hj => ?_⟩⟩
    obtain ⟨d0, d1, d2, e0, e1, e2, e3⟩ := h12 j hj
    have := h10 j hj
    refine ⟨d0, d1, d2, ⟨?_, ?_, ?_⟩, Own.inn n (L j) (H j) d0 d1 d2 _ (by omega) e3⟩
    · rw [Lib.cell_of_heap h5, Nat.zero_add]; exact e0
    · rw [Lib.cell_of_heap h5, Nat.zero_add]; exact e1
    · rw [Lib.cell_of_heap h5, Nat.zero_add]; exact e2
theorem Own.shape {w : World} {n lo hi : Nat} {c0 c1 c2 : Value} {i : Im.It} (h : Own w n lo hi c0 c1 c2 i) : ∃ g cap, c0 = .bool i.list ∧ c1 = .string ⟨i.bytes.toArray⟩ ∧ c2 = .slice (some ⟨g, 0, none⟩) i.kids.length cap := by
  cases n with
  | zero => cases h
  | succ n =>
    obtain ⟨h0, h1, g, cap, cur, h2, _⟩ := h
    exact ⟨g, cap, h0, h1, h2⟩
theorem info_item : (Tryd.prog.info? 24).map (fun i => (i.zero, i.size, i.bytes)) = some (some (.agg #[.bool false, .string ⟨#[]⟩, .slice none 0 0]), 3, 48) := by kernel_rfl

/-- the first k of a list's items, made, and the row that holds them -/
def Part (w : World) (n base : Nat) (i : Im.It) (k : Nat) (v : Value) : Prop :=
  ∃ xs : List Value, w.ownsRow base 24 3 v k xs ∧ ∃ L H : Nat → Nat, (∀ j, j < k → base ≤ L j ∧ L j ≤ H j ∧ H j ≤ w.heap.size ∧ (∀ g, v.ownBlock = some g → g < L j ∨ H j ≤ g)) ∧ (∀ a b, a < b → b < k → H a ≤ L b) ∧
    ∀ (j : Nat) (hj : j < k) (hk : j < i.kids.length), ∃ d0 d1 d2, xs[j * 3]? = some d0 ∧ xs[j * 3 + 1]? = some d1 ∧ xs[j * 3 + 2]? = some d2 ∧ Own w n (L j) (H j) d0 d1 d2 (i.kids[j])
end Go.Proofs.YtpibpdpedjinhaaDoor
