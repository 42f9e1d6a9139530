/- The verifier's book of lists: what it holds, and what a step leaves of it. -/
import Derived.Test.YtpibpdpedjinhaaDoorWWord
import Derived.Test.YtpibpdpedjinhaaDoorWTree2
namespace Go.Proofs.YtpibpdpedjinhaaDoor
open Go.RowKit Go.Joins

/-- as append_mine; and where the row comes to lie in a new block nothing that was there has turned -/
theorem append_mine3 {P : Program} (w : World) (base : Nat) (t ty e : TypeId) (i : TypeInfo) (z : Value) (size bytes : Nat) (ht : P.underlying t = some (.slice e)) (hi : P.info? e = some i) (hz : i.zero = some z)
    (hsize : i.size = size) (hby : i.bytes = bytes) (hzs : z.cells.size = size) (hsz : 0 < size)
    (v : Value) (n : Nat) (xs : List Value) (hown : w.ownsRow base e size v n xs)
    (a : Addr) (m c : Nat) (news : List Value) (hm : 0 < m) (hl : news.length = m * size) (hnews : ∀ j u, news[j]? = some u → w.cell? (a.add j) = some u) (h1 : ∀ u ∈ news, u.oneCell' = true)
    (h63 : n + m ≤ maxLen) (hbytes : (n + m) * bytes ≤ 140737488355328) (hbase : base ≤ w.heap.size) :
    ∃ v' w', (Builtin.append_ #[t, t] ty #[v, .slice (some a) m c]).run P w = .ok v' w' ∧ w'.ownsRow base e size v' (n + m) (xs ++ news) ∧ w.grownBy w' v.ownBlock ∧ (v'.ownBlock = v.ownBlock ∨ ∃ g, v'.ownBlock = some g ∧ w.heap.size ≤ g ∧ w.grownBy w' none) := by
  obtain ⟨v', w', hr, h2, h3, h4⟩ := append_mine (P := P) w base t ty e i z size bytes ht hi hz hsize hby hzs hsz v n xs hown a m c news hm hl hnews h1 h63 hbytes hbase
  refine ⟨v', w', hr, h2, h3, ?_⟩
  rcases h4 with h4 | ⟨g, h4, h5⟩
  · exact .inl h4
  · refine .inr ⟨g, h4, h5, ?_⟩
    rcases hown.2 with ⟨rfl, rfl⟩ | ⟨g0, cap, cur, rfl, hbg, hg, hnc, hcm, hcs, htake⟩
    · exact h3
    · have hg0 : g0 < w.heap.size := (Array.getElem?_eq_some_iff.1 hg).1
      by_cases hroom : n + m ≤ cap
      · exfalso
        have hfit : n * i.size + news.length ≤ cur.size := by rw [hl, hcs, hsize, ← Nat.add_mul]; exact Nat.mul_le_mul_right _ hroom
        have hr2 := run_append_room (P := P) w t ty e i ht hi g0 n cap cur hg a m c news (by rw [hsize]; exact hl) hnews h1 hroom hfit
        rw [hr] at hr2
        simp only [Result.ok.injEq] at hr2
        rw [hr2.1] at h4
        simp [Value.ownBlock] at h4
        omega
      · have hsmall : n + m ≤ 9223372036854775807 := by simp only [maxLen] at h63; omega
        subst hsize hby
        have holds : ∀ j u, xs[j]? = some u → w.cell? ((⟨g0, 0, none⟩ : Addr).add j) = some u := hown.cells (g := g0) rfl
        have hr2 := run_append_grow (P := P) w t ty e i z ht hi hz ⟨g0, 0, none⟩ n cap xs hown.1 holds a m c news hl hnews (by omega) (by omega) (growslice_fits (by omega) hbytes)
        rw [hr] at hr2
        simp only [Result.ok.injEq] at hr2
        rw [hr2.2]
        exact ⟨rfl, rfl, rfl, by simp, fun k hk _ => Below.heap_alloc _ _ _ hk⟩
theorem wpList_append_mine3 {P : Program} (w : World) {ops : Array Oper} {rest : List Oper} {o : Oper} {a : Act} {Q : Exit → Act → World → Prop} (hgd : o.guard = none) (s x : Operand) (t : TypeId)
    (ho : o.op = .call { callee := .builtin .append, args := #[s, x], argTypes := #[t, t] })
    (base : Nat) (e : TypeId) (i : TypeInfo) (z : Value) (size bytes : Nat) (ht : P.underlying t = some (.slice e)) (hi : P.info? e = some i) (hz : i.zero = some z)
    (hsize : i.size = size) (hby : i.bytes = bytes) (hzs : z.cells.size = size) (hsz : 0 < size)
    (v : Value) (n : Nat) (xs : List Value) (hs : a.eval s = v) (hown : w.ownsRow base e size v n xs)
    (ad : Addr) (m c : Nat) (news : List Value) (hx : a.eval x = .slice (some ad) m c) (hm : 0 < m) (hl : news.length = m * size) (hnews : ∀ j u, news[j]? = some u → w.cell? (ad.add j) = some u) (h1 : ∀ u ∈ news, u.oneCell' = true)
    (h63 : n + m ≤ maxLen) (hbytes : (n + m) * bytes ≤ 140737488355328) (hbase : base ≤ w.heap.size)
    (h : ∀ v' w', w'.ownsRow base e size v' (n + m) (xs ++ news) → w.grownBy w' v.ownBlock → (v'.ownBlock = v.ownBlock ∨ ∃ g, v'.ownBlock = some g ∧ w.heap.size ≤ g ∧ w.grownBy w' none) → wpList P ops Q rest (a.put o.dst v') w') : wpList P ops Q (o :: rest) a w := by
  refine wpList_plain hgd fun K hK => ?_
  obtain ⟨v', w', hr, h2, h3, h4⟩ := append_mine3 (P := P) w base t o.type e i z size bytes ht hi hz hsize hby hzs hsz v n xs hown ad m c news hm hl hnews h1 h63 hbytes hbase
  unfold Oper.wp execOp
  simp only [ho, resolve, invoke, builtin, Sem.run_bind, Sem.run_pure, Result.andThen_ok, List.map_toArray, List.map_cons, List.map_nil, hs, hx, hr]
  exact hK _ _ (h v' w' h2 h3 h4)

theorem rows_apart {w : World} {b b' e e' s s' k k' : Nat} {v v' : Value} {xs xs' : List Value} (h : w.ownsRow b e s v k xs) (h' : w.ownsRow b' e' s' v' k' xs') (hne : e ≠ e') (g : Nat) (hg : v.ownBlock = some g) : v'.ownBlock ≠ some g := by
  rcases h.2 with ⟨rfl, _⟩ | ⟨g1, cap, cur, rfl, _, hh, _⟩
  · simp [Value.ownBlock] at hg
  · rcases h'.2 with ⟨rfl, _⟩ | ⟨g2, cap', cur', rfl, _, hh', _⟩
    · simp [Value.ownBlock]
    · simp [Value.ownBlock] at hg ⊢
      subst hg
      rintro rfl
      rw [hh] at hh'
      simp at hh'
      exact hne hh'.2
theorem row_obj {w : World} {b e s k : Nat} {v : Value} {xs : List Value} (h : w.ownsRow b e s v k xs) (g : Nat) (hg : v.ownBlock = some g) : ∃ cur, w.heap[g]? = some (.cells cur e (0, 0)) := by
  rcases h.2 with ⟨rfl, _⟩ | ⟨g1, cap, cur, rfl, _, hh, _⟩
  · simp [Value.ownBlock] at hg
  · simp [Value.ownBlock] at hg
    subst hg
    exact ⟨cur, hh⟩

/-- a list that was written down, and its mark -/
structure E where
  a : Option Addr
  len : Nat
  cap : Nat
  mark : Nat
  short : len ≤ 16777216
def E.v (e : E) : Value := .slice e.a e.len e.cap
/-- it is full of its mark -/
def Reads (W : World) (e : E) : Prop := e.len = 0 ∨ ∃ g cur, e.a = some ⟨g, 0, none⟩ ∧ W.heap[g]? = some (.cells cur 24 (0, 0)) ∧ ∀ j, j < e.len → cur[j * 3]? = some (.bool false) ∧ cur[j * 3 + 1]? = some (.string (markB e.mark)) ∧ cur[j * 3 + 2]? = some (.slice none 0 0)
/-- where it lies, if anywhere -/
def E.At (e : E) (S : Nat → Prop) : Prop := 0 < e.len → ∀ a : Addr, e.a = some a → S a.block
theorem Reads.lt {W : World} {e : E} (h : Reads W e) : e.At (fun g => g < W.heap.size) := by
  intro h0 a ha
  rcases h with h | ⟨g, cur, hg, hh, _⟩
  · omega
  · rw [hg] at ha
    cases ha
    exact (Array.getElem?_eq_some_iff.1 hh).1
theorem Reads.kept {W W' : World} {e : E} (h : Reads W e) {S : Nat → Prop} (hs : e.At S) (hk : ∀ g cur, S g → W.heap[g]? = some (.cells cur 24 (0, 0)) → W'.heap[g]? = some (.cells cur 24 (0, 0))) : Reads W' e := by
  rcases h with h | ⟨g, cur, hg, hh, hr⟩
  · exact .inl h
  · by_cases h0 : 0 < e.len
    · exact .inr ⟨g, cur, hg, hk g cur (hs h0 _ hg) hh, hr⟩
    · exact .inl (by omega)
def BookAt (W : World) (kb N : Nat) (vi vm : Value) : Prop := W.heap[kb]? = some (.cells #[.int .i64 N, vi, .slice none 0 0, .slice none 0 0, .slice none 0 0, vm, .slice none 0 0, .slice none 0 0, .slice none 0 0] 41 (0, 0))
/-- the book: its rows are its own, from B0 on -/
def Rows2 (W : World) (kb B0 N : Nat) (vi vm : Value) (es : List E) : Prop :=
  BookAt W kb N vi vm ∧ B0 ≤ kb ∧ W.ownsRow B0 22 1 vi es.length (es.map E.v) ∧ W.ownsRow B0 3 1 vm es.length (es.map (fun e => Value.int .i64 e.mark))
def Book (W : World) (kb B0 N : Nat) (es : List E) : Prop := ∃ vi vm, Rows2 W kb B0 N vi vm es ∧ ∀ e, e ∈ es → Reads W e

/-- no block of the book's kinds -/
def NB (o : Obj) : Prop := ∀ cs fr, o ≠ .cells cs 41 fr ∧ o ≠ .cells cs 22 fr ∧ o ≠ .cells cs 3 fr
theorem NB.item (cs : Array Value) (fr : Nat × Nat) : NB (.cells cs 24 fr) := fun _ _ => ⟨by simp, by simp, by simp⟩
theorem nb_row {w : World} {b e s k : Nat} {v : Value} {xs : List Value} (h : w.ownsRow b e s v k xs) (he : e = 22 ∨ e = 3) (g : Nat) (hg : v.ownBlock = some g) : ∃ o, w.heap[g]? = some o ∧ ¬ NB o := by
  obtain ⟨cur, hc⟩ := row_obj h g hg
  refine ⟨_, hc, fun hn => ?_⟩
  rcases he with rfl | rfl
  · exact (hn cur (0, 0)).2.1 rfl
  · exact (hn cur (0, 0)).2.2 rfl
/-- all that was there stays, but blocks from lo on, below hi, and the book's own -/
def Kp (lo hi : Nat) (W W' : World) : Prop := ∀ k o, W.heap[k]? = some o → (k < lo ∨ hi ≤ k) → NB o → W'.heap[k]? = some o
theorem Kp.refl (lo hi : Nat) (W : World) : Kp lo hi W W := fun _ _ h _ _ => h
theorem Kp.step {lo hi : Nat} {W W1 W2 : World} {row : Option Nat} (h : Kp lo hi W W1) (hg : W1.grownBy W2 row)
    (hr : ∀ r, row = some r → (lo ≤ r ∧ r < hi) ∨ W.heap.size ≤ r ∨ ∃ o, W1.heap[r]? = some o ∧ ¬ NB o) : Kp lo hi W W2 := by
  intro k o hk hout hnb
  have h1 := h k o hk hout hnb
  have hlt := (Array.getElem?_eq_some_iff.1 h1).1
  have hlw := (Array.getElem?_eq_some_iff.1 hk).1
  by_cases e : some k = row
  · exfalso
    rcases hr k e.symm with h2 | h2 | ⟨o', h2, h3⟩
    · omega
    · omega
    · rw [h1] at h2
      cases h2
      exact h3 hnb
  · rw [hg.block k hlt e]; exact h1
theorem Kp.trans {lo hi : Nat} {W W1 W2 : World} {lo' hi' : Nat} (h : Kp lo hi W W1) (h2 : Kp lo' hi' W1 W2) (h3 : lo ≤ lo') (h4 : hi' ≤ hi) : Kp lo hi W W2 :=
  fun k o hk hout hnb => h2 k o (h k o hk hout hnb) (by omega) hnb
theorem Kp.below {lo hi : Nat} {W W1 : World} (h : Below W.heap.size W W1) : Kp lo hi W W1 := fun k _ hk _ _ => (h.block k (Array.getElem?_eq_some_iff.1 hk).1).trans hk

theorem Tr.keptT {w w' : World} : ∀ (n lo hi : Nat) (c0 c1 c2 : Value) (i : Im.It), (∀ k cs, lo ≤ k → k < hi → w.heap[k]? = some (.cells cs 24 (0, 0)) → w'.heap[k]? = some (.cells cs 24 (0, 0))) → Tr w n lo hi c0 c1 c2 i → Tr w' n lo hi c0 c1 c2 i
  | 0, _, _, _, _, _, _, _, h => h
  | n + 1, lo, hi, c0, c1, c2, i, hk, h => by
    obtain ⟨h0, xs, L, H, h1, h2, h3, h4, h5⟩ := h
    refine ⟨h0, xs, L, H, ⟨h1.1, ?_⟩, h2, h3, h4, fun j hj => ?_⟩
    · rcases h1.2 with hz | ⟨g, cap, cur, hv, hg, hh, r⟩
      · exact .inl hz
      · exact .inr ⟨g, cap, cur, hv, hg, hk g _ hg (h2 g (by rw [hv]; rfl)) hh, r⟩
    · obtain ⟨d0, d1, d2, e0, e1, e2, e3⟩ := h5 j hj
      have := h3 j hj
      exact ⟨d0, d1, d2, e0, e1, e2, Tr.keptT n (L j) (H j) d0 d1 d2 _ (fun k cs a b => hk k cs (by omega) (by omega)) e3⟩
/-- a book stays where its own blocks and those of its lists stay -/
theorem Book.kept {W W' : World} {kb B0 N : Nat} {vi vm : Value} {es : List E} (h : Rows2 W kb B0 N vi vm es) (hk : ∀ (k : Nat) (cs : Array Value) (t : TypeId), (t = 41 ∨ t = 22 ∨ t = 3) → W.heap[k]? = some (Obj.cells cs t (0, 0)) → W'.heap[k]? = some (Obj.cells cs t (0, 0))) : Rows2 W' kb B0 N vi vm es := by
  obtain ⟨h1, h2, h3, h4⟩ := h
  refine ⟨hk _ _ _ (.inl rfl) h1, h2, ?_, ?_⟩
  · refine ⟨h3.1, ?_⟩
    rcases h3.2 with hz | ⟨g, cap, cur, hv, hg, hh, r⟩
    · exact .inl hz
    · exact .inr ⟨g, cap, cur, hv, hg, hk _ _ _ (.inr (.inl rfl)) hh, r⟩
  · refine ⟨h4.1, ?_⟩
    rcases h4.2 with hz | ⟨g, cap, cur, hv, hg, hh, r⟩
    · exact .inl hz
    · exact .inr ⟨g, cap, cur, hv, hg, hk _ _ _ (.inr (.inr rfl)) hh, r⟩
end Go.Proofs.YtpibpdpedjinhaaDoor
