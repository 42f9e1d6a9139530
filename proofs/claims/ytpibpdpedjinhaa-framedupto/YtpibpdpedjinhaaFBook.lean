/- The verifier's book with lists of frames: what it holds, and what a step leaves of it. -/
import Derived.Test.YtpibpdpedjinhaaFKit
namespace Go.Proofs.Ytpibpdpedjinhaa.Fr
open Go.RowKit Go.Joins

/-- a list that was written down, and its mark -/
structure E where
  a : Option Addr
  len : Nat
  cap : Nat
  mark : Nat
  short : len ≤ 16777216
def E.v (e : E) : Value := .slice e.a e.len e.cap
/-- it is full of its mark -/
def Reads (W : World) (e : E) : Prop := e.len = 0 ∨ ∃ g cur, e.a = some ⟨g, 0, none⟩ ∧ W.heap[g]? = some (.cells cur 42 (0, 0)) ∧ ∀ j, j < e.len → cur[j * 4]? = some (.int .u32 0) ∧ cur[j * 4 + 1]? = some (.int .u16 0) ∧ cur[j * 4 + 2]? = some (.string (markB e.mark)) ∧ cur[j * 4 + 3]? = some (.bool false)
/-- where it lies, if anywhere -/
def E.At (e : E) (S : Nat → Prop) : Prop := 0 < e.len → ∀ a : Addr, e.a = some a → S a.block
theorem Reads.lt {W : World} {e : E} (h : Reads W e) : e.At (fun g => g < W.heap.size) := by
  intro h0 a ha
  rcases h with h | ⟨g, cur, hg, hh, _⟩
  · omega
  · rw [hg] at ha
    cases ha
    exact (Array.getElem?_eq_some_iff.1 hh).1
theorem Reads.kept {W W' : World} {e : E} (h : Reads W e) {S : Nat → Prop} (hs : e.At S) (hk : ∀ g cur, S g → W.heap[g]? = some (.cells cur 42 (0, 0)) → W'.heap[g]? = some (.cells cur 42 (0, 0))) : Reads W' e := by
  rcases h with h | ⟨g, cur, hg, hh, hr⟩
  · exact .inl h
  · by_cases h0 : 0 < e.len
    · exact .inr ⟨g, cur, hg, hk g cur (hs h0 _ hg) hh, hr⟩
    · exact .inl (by omega)
def BookAt (W : World) (kb N : Nat) (vi vm : Value) : Prop := W.heap[kb]? = some (.cells #[.int .i64 N, .slice none 0 0, .slice none 0 0, vi, .slice none 0 0, .slice none 0 0, .slice none 0 0, vm, .slice none 0 0] 35 (0, 0))
/-- the book: its rows are its own, from B0 on -/
def Rows2 (W : World) (kb B0 N : Nat) (vi vm : Value) (es : List E) : Prop :=
  BookAt W kb N vi vm ∧ B0 ≤ kb ∧ W.ownsRow B0 36 1 vi es.length (es.map E.v) ∧ W.ownsRow B0 3 1 vm es.length (es.map (fun e => Value.int .i64 e.mark))
def Book (W : World) (kb B0 N : Nat) (es : List E) : Prop := ∃ vi vm, Rows2 W kb B0 N vi vm es ∧ ∀ e, e ∈ es → Reads W e

/-- no block of the book's kinds -/
def NB (o : Obj) : Prop := ∀ cs fr, o ≠ .cells cs 35 fr ∧ o ≠ .cells cs 36 fr ∧ o ≠ .cells cs 3 fr
theorem NB.item (cs : Array Value) (fr : Nat × Nat) : NB (.cells cs 42 fr) := fun _ _ => ⟨by simp, by simp, by simp⟩
theorem nb_row {w : World} {b e s k : Nat} {v : Value} {xs : List Value} (h : w.ownsRow b e s v k xs) (he : e = 36 ∨ e = 3) (g : Nat) (hg : v.ownBlock = some g) : ∃ o, w.heap[g]? = some o ∧ ¬ NB o := by
  obtain ⟨cur, hc⟩ := row_obj h g hg
  refine ⟨_, hc, fun hn => ?_⟩
  rcases he with rfl | rfl
  · exact (hn cur (0, 0)).2.1 rfl
  · exact (hn cur (0, 0)).2.2 rfl
/-- all that was there stays, but blocks from lo on, below hi, and the book's own -/
def Kp (lo hi : Nat) (W W' : World) : Prop := ∀ k o, W.heap[k]? = some o → (k < lo ∨ hi ≤ k) → NB o → W'.heap[k]? = some o
theorem Kp.refl (lo hi : Nat) (W : World) : Kp lo hi W W := fun _ _ h _ _ => h
theorem Kp.step {lo hi : Nat} {W W1 W2 : World} {row : Option Nat} (h : Kp lo hi W W1) (hg : W1.grownBy W2 row)
    (hr : ∀ r, row = some r → (lo ≤ r ∧ r < hi) ∨ W.heap.size ≤ r ∨ ∃ o, W1.heap[r]? = some o ∧ ¬ NB o) : Kp lo hi W W2 := by
  intro k o hk hout hnb
  have h1 := h k o hk hout hnb
  have hlt := (Array.getElem?_eq_some_iff.1 h1).1
  have hlw := (Array.getElem?_eq_some_iff.1 hk).1
  by_cases e : some k = row
  · exfalso
    rcases hr k e.symm with h2 | h2 | ⟨o', h2, h3⟩
    · omega
    · omega
    · rw [h1] at h2
      cases h2
      exact h3 hnb
  · rw [hg.block k hlt e]; exact h1
theorem Kp.trans {lo hi : Nat} {W W1 W2 : World} {lo' hi' : Nat} (h : Kp lo hi W W1) (h2 : Kp lo' hi' W1 W2) (h3 : lo ≤ lo') (h4 : hi' ≤ hi) : Kp lo hi W W2 :=
  fun k o hk hout hnb => h2 k o (h k o hk hout hnb) (by omega) hnb
theorem Kp.below {lo hi : Nat} {W W1 : World} (h : Below W.heap.size W W1) : Kp lo hi W W1 := fun k _ hk _ _ => (h.block k (Array.getElem?_eq_some_iff.1 hk).1).trans hk

/-- a book stays where its own blocks and those of its lists stay -/
theorem Book.kept {W W' : World} {kb B0 N : Nat} {vi vm : Value} {es : List E} (h : Rows2 W kb B0 N vi vm es) (hk : ∀ (k : Nat) (cs : Array Value) (t : TypeId), (t = 35 ∨ t = 36 ∨ t = 3) → W.heap[k]? = some (Obj.cells cs t (0, 0)) → W'.heap[k]? = some (Obj.cells cs t (0, 0))) : Rows2 W' kb B0 N vi vm es := by
  obtain ⟨h1, h2, h3, h4⟩ := h
  refine ⟨hk _ _ _ (.inl rfl) h1, h2, ?_, ?_⟩
  · refine ⟨h3.1, ?_⟩
    rcases h3.2 with hz | ⟨g, cap, cur, hv, hg, hh, r⟩
    · exact .inl hz
    · exact .inr ⟨g, cap, cur, hv, hg, hk _ _ _ (.inr (.inl rfl)) hh, r⟩
  · refine ⟨h4.1, ?_⟩
    rcases h4.2 with hz | ⟨g, cap, cur, hv, hg, hh, r⟩
    · exact .inl hz
    · exact .inr ⟨g, cap, cur, hv, hg, hk _ _ _ (.inr (.inr rfl)) hh, r⟩
/-- the book's rows, each by itself -/
def RowsG (W : World) (kb B0 N : Nat) (vi vm : Value) (vs ms : List Value) : Prop :=
  BookAt W kb N vi vm ∧ B0 ≤ kb ∧ W.ownsRow B0 36 1 vi vs.length vs ∧ W.ownsRow B0 3 1 vm ms.length ms
theorem RowsG.of2 {W : World} {kb B0 N : Nat} {vi vm : Value} {es : List E} (h : Rows2 W kb B0 N vi vm es) : RowsG W kb B0 N vi vm (es.map E.v) (es.map (fun e => Value.int .i64 e.mark)) := by
  obtain ⟨h1, h2, h3, h4⟩ := h
  exact ⟨h1, h2, by rw [List.length_map]; exact h3, by rw [List.length_map]; exact h4⟩
theorem RowsG.to2 {W : World} {kb B0 N : Nat} {vi vm : Value} {es : List E} (h : RowsG W kb B0 N vi vm (es.map E.v) (es.map (fun e => Value.int .i64 e.mark))) : Rows2 W kb B0 N vi vm es := by
  obtain ⟨h1, h2, h3, h4⟩ := h
  rw [List.length_map] at h3 h4
  exact ⟨h1, h2, h3, h4⟩
theorem kb_apart {W : World} {kb N : Nat} {vi vm : Value} (hb : BookAt W kb N vi vm) {b e s k : Nat} {v : Value} {xs : List Value} (h : W.ownsRow b e s v k xs) (he : e ≠ 35) : v.ownBlock ≠ some kb := by
  intro hg
  obtain ⟨cur, hc⟩ := row_obj h kb hg
  have := hb.symm.trans hc
  simp at this
  exact he this.2.symm
theorem kb_not {W : World} {kb N : Nat} {vi vm : Value} (hb : BookAt W kb N vi vm) : ∃ o, W.heap[kb]? = some o ∧ ¬ NB o := ⟨_, hb, fun hn => (hn _ (0, 0)).1 rfl⟩
theorem BookAt.set1 {W : World} {kb N : Nat} {vi vm : Value} (h : BookAt W kb N vi vm) (v : Value) : BookAt (W.setCell ⟨kb, 3, none⟩ v) kb N v vm := by
  have := block_setCell h (i := 3) v
  unfold BookAt
  simpa using this
theorem BookAt.set5 {W : World} {kb N : Nat} {vi vm : Value} (h : BookAt W kb N vi vm) (v : Value) : BookAt (W.setCell ⟨kb, 7, none⟩ v) kb N vi v := by
  have := block_setCell h (i := 7) v
  unfold BookAt
  simpa using this
theorem BookAt.set0 {W : World} {kb N : Nat} {vi vm : Value} (h : BookAt W kb N vi vm) (N' : Nat) : BookAt (W.setCell ⟨kb, 0, none⟩ (.int .i64 N')) kb N' vi vm := by
  have := block_setCell h (i := 0) (.int .i64 N')
  unfold BookAt
  simpa using this
/-- an entry more in the row of lists -/
theorem RowsG.item {w u w3 : World} {kb B0 N : Nat} {vi vm vi' v : Value} {vs ms : List Value} (h : RowsG w kb B0 N vi vm vs ms) (hu : Below w.heap.size w u) (hB : B0 ≤ w.heap.size)
    (hown' : w3.ownsRow B0 36 1 vi' (vs.length + 1) (vs ++ [v])) (hgr : u.grownBy w3 vi.ownBlock) :
    RowsG (w3.setCell ⟨kb, 3, none⟩ vi') kb B0 N vi' vm (vs ++ [v]) ms ∧ Kp 0 0 w (w3.setCell ⟨kb, 3, none⟩ vi') ∧ Below B0 w (w3.setCell ⟨kb, 3, none⟩ vi') := by
  obtain ⟨h1, h2, h3, h4⟩ := h
  have hlt : kb < w.heap.size := (Array.getElem?_eq_some_iff.1 h1).1
  have su := hu.size
  have s3 := hgr.size
  have u1 : BookAt u kb N vi vm := (hu.block kb hlt).trans h1
  have u3 := own_below h3 hu
  have u4 := own_below h4 hu
  have b3 : BookAt w3 kb N vi vm := (hgr.block kb (by omega) (fun e => kb_apart u1 u3 (by simp) e.symm)).trans u1
  have r4 : w3.ownsRow B0 3 1 vm ms.length ms := ownsRow_kept u4 (fun g hg => hgr.block g (own_lt u4 hg).2 (fun e => rows_apart u3 u4 (by simp) g e.symm hg))
  have k1 : Kp 0 0 w u := Kp.below hu
  have k2 : Kp 0 0 w w3 := k1.step hgr (fun r hr => .inr (.inr (nb_row u3 (.inl rfl) r hr)))
  have k3 : Kp 0 0 w (w3.setCell ⟨kb, 3, none⟩ vi') := k2.step (grown_set _ _ _) (fun r hr => by cases hr; exact .inr (.inr (kb_not b3)))
  refine ⟨⟨b3.set1 vi', h2, ?_, ?_⟩, k3, ?_⟩
  · rw [List.length_append]
    exact ownsRow_kept hown' (fun g hg => Below.heap_setCell _ _ _ _ (fun e => kb_apart b3 hown' (by simp) (by rw [hg]; exact congrArg some e)))
  · exact ownsRow_kept r4 (fun g hg => Below.heap_setCell _ _ _ _ (fun e => kb_apart b3 r4 (by simp) (by rw [hg]; exact congrArg some e)))
  · exact ((hu.mono hB).grown hgr (by omega) (fun k hk => (own_lt u3 hk).1)).setCell h2 _
/-- an entry more in the row of marks -/
theorem RowsG.mark {w u w3 : World} {kb B0 N : Nat} {vi vm vm' v : Value} {vs ms : List Value} (h : RowsG w kb B0 N vi vm vs ms) (hu : Below w.heap.size w u) (hB : B0 ≤ w.heap.size)
    (hown' : w3.ownsRow B0 3 1 vm' (ms.length + 1) (ms ++ [v])) (hgr : u.grownBy w3 vm.ownBlock) :
    RowsG (w3.setCell ⟨kb, 7, none⟩ vm') kb B0 N vi vm' vs (ms ++ [v]) ∧ Kp 0 0 w (w3.setCell ⟨kb, 7, none⟩ vm') ∧ Below B0 w (w3.setCell ⟨kb, 7, none⟩ vm') := by
  obtain ⟨h1, h2, h3, h4⟩ := h
  have hlt : kb < w.heap.size := (Array.getElem?_eq_some_iff.1 h1).1
  have su := hu.size
  have s3 := hgr.size
  have u1 : BookAt u kb N vi vm := (hu.block kb hlt).trans h1
  have u3 := own_below h3 hu
  have u4 := own_below h4 hu
  have b3 : BookAt w3 kb N vi vm := (hgr.block kb (by omega) (fun e => kb_apart u1 u4 (by simp) e.symm)).trans u1
  have r3 : w3.ownsRow B0 36 1 vi vs.length vs := ownsRow_kept u3 (fun g hg => hgr.block g (own_lt u3 hg).2 (fun e => rows_apart u4 u3 (by simp) g e.symm hg))
  have k1 : Kp 0 0 w u := Kp.below hu
  have k2 : Kp 0 0 w w3 := k1.step hgr (fun r hr => .inr (.inr (nb_row u4 (.inr rfl) r hr)))
  have k3 : Kp 0 0 w (w3.setCell ⟨kb, 7, none⟩ vm') := k2.step (grown_set _ _ _) (fun r hr => by cases hr; exact .inr (.inr (kb_not b3)))
  refine ⟨⟨b3.set5 vm', h2, ?_, ?_⟩, k3, ?_⟩
  · exact ownsRow_kept r3 (fun g hg => Below.heap_setCell _ _ _ _ (fun e => kb_apart b3 r3 (by simp) (by rw [hg]; exact congrArg some e)))
  · rw [List.length_append]
    exact ownsRow_kept hown' (fun g hg => Below.heap_setCell _ _ _ _ (fun e => kb_apart b3 hown' (by simp) (by rw [hg]; exact congrArg some e)))
  · exact ((hu.mono hB).grown hgr (by omega) (fun k hk => (own_lt u4 hk).1)).setCell h2 _
/-- what turns a block of items leaves the book's rows -/
theorem RowsG.kept {W W' : World} {kb B0 N : Nat} {vi vm : Value} {vs ms : List Value} (h : RowsG W kb B0 N vi vm vs ms) {row : Option Nat} (hg : W.grownBy W' row) (hr : ∀ r, row = some r → ∃ cs fr, W.heap[r]? = some (.cells cs 42 fr)) : RowsG W' kb B0 N vi vm vs ms := by
  obtain ⟨h1, h2, h3, h4⟩ := h
  have hne : ∀ (k : Nat) (cs : Array Value) (t : TypeId), t ≠ 42 → W.heap[k]? = some (.cells cs t (0, 0)) → W'.heap[k]? = some (.cells cs t (0, 0)) := by
    intro k cs t ht hk
    refine (hg.block k (Array.getElem?_eq_some_iff.1 hk).1 (fun e => ?_)).trans hk
    obtain ⟨cs', fr, hc⟩ := hr k e.symm
    rw [hk] at hc
    simp at hc
    exact ht hc.2.1
  refine ⟨hne _ _ _ (by simp) h1, h2, ?_, ?_⟩
  · refine ⟨h3.1, ?_⟩
    rcases h3.2 with hz | ⟨g, cap, cur, hv, hgb, hh, r⟩
    · exact .inl hz
    · exact .inr ⟨g, cap, cur, hv, hgb, hne _ _ _ (by simp) hh, r⟩
  · refine ⟨h4.1, ?_⟩
    rcases h4.2 with hz | ⟨g, cap, cur, hv, hgb, hh, r⟩
    · exact .inl hz
    · exact .inr ⟨g, cap, cur, hv, hgb, hne _ _ _ (by simp) hh, r⟩

theorem own_keptT0 {w w' : World} {base size n : Nat} {v : Value} {xs : List Value} (h : w.ownsRow base 42 size v n xs) (hk : ∀ (g : Nat) (cs : Array Value), w.heap[g]? = some (Obj.cells cs 42 (0, 0)) → w'.heap[g]? = some (Obj.cells cs 42 (0, 0))) : w'.ownsRow base 42 size v n xs := by
  obtain ⟨h1, h2⟩ := h
  refine ⟨h1, ?_⟩
  rcases h2 with h2 | ⟨g, cap, cur, hv, hg, hh, r⟩
  · exact .inl h2
  · exact .inr ⟨g, cap, cur, hv, hg, hk g cur hh, r⟩

/-- so many frames, each the mark m -/
def Full (m : Nat) (ys : List Value) (n : Nat) : Prop := ys.length = n * 4 ∧ ∀ q, q < n → ys[q * 4]? = some (.int .u32 0) ∧ ys[q * 4 + 1]? = some (.int .u16 0) ∧ ys[q * 4 + 2]? = some (.string (markB m)) ∧ ys[q * 4 + 3]? = some (.bool false)
theorem Full.snoc {m n : Nat} {ys : List Value} (h : Full m ys n) : Full m (ys ++ [.int .u32 0, .int .u16 0, .string (markB m), .bool false]) (n + 1) := by
  obtain ⟨h1, h2⟩ := h
  refine ⟨by simp [h1]; omega, fun q hq => ?_⟩
  by_cases hqn : q < n
  · obtain ⟨a, b, c, d⟩ := h2 q hqn
    exact ⟨by rw [List.getElem?_append_left (by omega)]; exact a, by rw [List.getElem?_append_left (by omega)]; exact b, by rw [List.getElem?_append_left (by omega)]; exact c, by rw [List.getElem?_append_left (by omega)]; exact d⟩
  · obtain rfl : q = n := by omega
    refine ⟨?_, ?_, ?_, ?_⟩
    · rw [List.getElem?_append_right (by omega), h1, Nat.sub_self]; rfl
    · rw [List.getElem?_append_right (by omega), h1, show q * 4 + 1 - q * 4 = 1 from by omega]; rfl
    · rw [List.getElem?_append_right (by omega), h1, show q * 4 + 2 - q * 4 = 2 from by omega]; rfl
    · rw [List.getElem?_append_right (by omega), h1, show q * 4 + 3 - q * 4 = 3 from by omega]; rfl
/-- a row that is full of its mark reads so, and so does any shorter list in its block -/
theorem Full.reads {W : World} {base n m : Nat} {v : Value} {ys : List Value} (h : W.ownsRow base 42 4 v n ys) (hf : Full m ys n) (e : E) (hm : e.mark = m) (hl : e.len ≤ n) (ha : e.a = none → e.len = 0) (he : ∀ a, e.a = some a → a = ⟨a.block, 0, none⟩ ∧ v.ownBlock = some a.block) : Reads W e := by
  by_cases h0 : e.len = 0
  · exact .inl h0
  · cases hea : e.a with
    | none => exact absurd (ha hea) h0
    | some a =>
      obtain ⟨h1, h2⟩ := he a hea
      rcases h.2 with ⟨rfl, _⟩ | ⟨g, cap, cur, rfl, _, hh, _, _, hcs, ht⟩
      · simp [Value.ownBlock] at h2
      · simp [Value.ownBlock] at h2
        subst h2
        refine .inr ⟨a.block, cur, by rw [hea]; exact congrArg some h1, hh, fun j hj => ?_⟩
        obtain ⟨x, y, z, u⟩ := hf.2 j (by omega)
        have hc : ∀ (q : Nat) (u : Value), ys[q]? = some u → cur[q]? = some u := by
          intro q u hu
          have hq : q < ys.length := (List.getElem?_eq_some_iff.1 hu).1
          rw [hf.1] at hq
          rw [← ht, List.getElem?_take_of_lt hq] at hu
          simpa using hu
        rw [hm]
        exact ⟨hc _ _ x, hc _ _ y, hc _ _ z, hc _ _ u⟩
/-- a frame of a row is written over -/
theorem own_put4 {w : World} {base e k g cap : Nat} {ys : List Value} (h : w.ownsRow base e 4 (.slice (some ⟨g, 0, none⟩) k cap) k ys) (j : Nat) (d0 d1 d2 d3 : Value) :
    ((((w.setCell ⟨g, j * 4, none⟩ d0).setCell ⟨g, j * 4 + 1, none⟩ d1).setCell ⟨g, j * 4 + 2, none⟩ d2).setCell ⟨g, j * 4 + 3, none⟩ d3).ownsRow base e 4 (.slice (some ⟨g, 0, none⟩) k cap) k ((((ys.set (j * 4) d0).set (j * 4 + 1) d1).set (j * 4 + 2) d2).set (j * 4 + 3) d3) := by
  refine ⟨by simp [h.1], ?_⟩
  rcases h.2 with ⟨h1, _⟩ | ⟨g', cap', cur, hv, hb, hh, hnc, hcm, hcs, ht⟩
  · simp at h1
  · simp only [Value.slice.injEq, Option.some.injEq, Addr.mk.injEq, and_true, true_and] at hv
    obtain ⟨rfl, rfl⟩ := hv
    have a1 := block_setCell hh (i := j * 4) d0
    have a2 := block_setCell a1 (i := j * 4 + 1) d1
    have a3 := block_setCell a2 (i := j * 4 + 2) d2
    have a4 := block_setCell a3 (i := j * 4 + 3) d3
    refine .inr ⟨g, cap, _, rfl, hb, a4, hnc, hcm, by simp [hcs], ?_⟩
    simp only [Array.toList_setIfInBounds]
    rw [← ht]
    simp only [List.take_set]
def M4 (m : Nat) (ys : List Value) (q : Nat) : Prop := ys[q * 4]? = some (.int .u32 0) ∧ ys[q * 4 + 1]? = some (.int .u16 0) ∧ ys[q * 4 + 2]? = some (.string (markB m)) ∧ ys[q * 4 + 3]? = some (.bool false)
theorem Full.put {m j k : Nat} {ys : List Value} (h1 : ys.length = k * 4) (hj : j < k) (h2 : ∀ q, q < j → M4 m ys q) :
    ∀ q, q < j + 1 → M4 m ((((ys.set (j * 4) (.int .u32 0)).set (j * 4 + 1) (.int .u16 0)).set (j * 4 + 2) (.string (markB m))).set (j * 4 + 3) (.bool false)) q := by
  intro q hq
  by_cases hqj : q < j
  · obtain ⟨a, b, c, d⟩ := h2 q hqj
    refine ⟨?_, ?_, ?_, ?_⟩
    · rw [List.getElem?_set_ne (by omega), List.getElem?_set_ne (by omega), List.getElem?_set_ne (by omega), List.getElem?_set_ne (by omega)]; exact a
    · rw [List.getElem?_set_ne (by omega), List.getElem?_set_ne (by omega), List.getElem?_set_ne (by omega), List.getElem?_set_ne (by omega)]; exact b
    · rw [List.getElem?_set_ne (by omega), List.getElem?_set_ne (by omega), List.getElem?_set_ne (by omega), List.getElem?_set_ne (by omega)]; exact c
    · rw [List.getElem?_set_ne (by omega), List.getElem?_set_ne (by omega), List.getElem?_set_ne (by omega), List.getElem?_set_ne (by omega)]; exact d
  · obtain rfl : q = j := by omega
    refine ⟨?_, ?_, ?_, ?_⟩
    · rw [List.getElem?_set_ne (by omega), List.getElem?_set_ne (by omega), List.getElem?_set_ne (by omega), List.getElem?_set_self (by omega)]
    · rw [List.getElem?_set_ne (by omega), List.getElem?_set_ne (by omega), List.getElem?_set_self (by simp; omega)]
    · rw [List.getElem?_set_ne (by omega), List.getElem?_set_self (by simp; omega)]
    · rw [List.getElem?_set_self (by simp; omega)]

def Ins (lo hi sz : Nat) (es : List E) : Prop := ∀ e, e ∈ es → e.At (fun g => (lo ≤ g ∧ g < hi) ∨ sz ≤ g)
theorem Kp.then0 {lo hi : Nat} {W W1 W2 : World} (h : Kp lo hi W W1) (h2 : Kp 0 0 W1 W2) : Kp lo hi W W2 := fun k o hk hout hnb => h2 k o (h k o hk hout hnb) (.inr (Nat.zero_le _)) hnb
/-- behind r of the four rounds -/
def Four (W wx : World) (lo hi kb B0 N1 len mp : Nat) (es es2 : List E) (lv : Value) (r : Nat) : Prop :=
  ∃ vi vm ys, es2.length = r ∧ Rows2 wx kb B0 N1 vi vm (es ++ es2) ∧ (∀ e, e ∈ es ++ es2 → Reads wx e) ∧ wx.ownsRow lo 42 4 lv (len + r) ys ∧ Full N1 ys (len + r) ∧ (∀ e, e ∈ es ++ es2 → e.At (fun g => lv.ownBlock = some g → e.mark = N1 ∧ e.len ≤ len + r)) ∧
    (∀ g, lv.ownBlock = some g → ((lo ≤ g ∧ g < hi) ∨ W.heap.size ≤ g) ∧ g ≠ mp) ∧ Ins lo hi W.heap.size es2 ∧ Kp lo hi W wx ∧ Below B0 W wx ∧ mp < wx.heap.size ∧ W.heap.size ≤ mp ∧ wx.heap[mp]? = some (.cells #[.int .u32 0, .int .u16 0, .string (markB N1), .bool false] 42 (0, 0))
theorem Four.start {W V Z wx : World} {lo hi kb B0 N1 len mp : Nat} {es : List E} {lv vi vm : Value} {xs ys : List Value} (hB0 : B0 ≤ lo) (hBW : B0 ≤ W.heap.size) (hhi : hi ≤ W.heap.size)
    (h1 : Rows2 V kb B0 N1 vi vm es) (h2 : ∀ e, e ∈ es → Reads V e) (h3 : ∀ e, e ∈ es → e.At (fun g => lv.ownBlock ≠ some g)) (hZ : Below V.heap.size V Z) (hy : wx.ownsRow lo 42 4 lv len ys) (hf : ∀ q, q < len → ys[q * 4]? = some (.int .u32 0) ∧ ys[q * 4 + 1]? = some (.int .u16 0) ∧ ys[q * 4 + 2]? = some (.string (markB N1)) ∧ ys[q * 4 + 3]? = some (.bool false))
    (hg : Z.grownBy wx lv.ownBlock) (ho : Z.ownsRow lo 42 4 lv len xs) (hol : ∀ g, lv.ownBlock = some g → g < hi) (hk : Kp lo hi W V) (hb : Below B0 W V) (hm1 : V.heap.size ≤ mp) (hm2 : mp < Z.heap.size) (hm : wx.heap[mp]? = some (.cells #[.int .u32 0, .int .u16 0, .string (markB N1), .bool false] 42 (0, 0))) :
    Four W wx lo hi kb B0 N1 len mp es [] lv 0 := by
  have sV := hb.size
  have sZ := hZ.size
  have sx := hg.size
  have hgz : RowsG Z kb B0 N1 vi vm (es.map E.v) (es.map (fun e => Value.int .i64 e.mark)) := (RowsG.of2 h1).kept (row := none) ⟨hZ.os, hZ.tape, hZ.output, hZ.size, fun k hk _ => hZ.block k hk⟩ (fun r hr => by cases hr)
  have hgx := hgz.kept hg (fun r hr => by obtain ⟨cur, hc⟩ := row_obj ho r hr; exact ⟨cur, _, hc⟩)
  have rZ : ∀ e, e ∈ es → Reads Z e := fun e he => (h2 e he).kept (h2 e he).lt (fun g cur hg hc => (hZ.block g hg).trans hc)
  refine ⟨vi, vm, ys, rfl, by rw [List.append_nil]; exact hgx.to2, ?_, hy, ⟨hy.1, hf⟩, ?_, ?_, fun e he => by simp at he, ?_, ?_, by omega, by omega, hm⟩
  · intro e he
    rw [List.append_nil] at he
    exact (rZ e he).kept (S := fun g => g < Z.heap.size ∧ some g ≠ lv.ownBlock) (fun hl0 a ha => ⟨(rZ e he).lt hl0 a ha, fun hh => h3 e he hl0 a ha hh.symm⟩) (fun g cur hgg hc => (hg.block g hgg.1 hgg.2).trans hc)
  · intro e he hl0 a ha hob
    rw [List.append_nil] at he
    exact absurd hob (h3 e he hl0 a ha)
  · intro g hgo
    have := hol g hgo
    exact ⟨.inl ⟨(own_lt ho hgo).1, this⟩, by omega⟩
  · exact (hk.then0 (Kp.below hZ)).step hg (fun r hr => .inl ⟨(own_lt ho hr).1, hol r hr⟩)
  · exact (hb.trans (hZ.mono (by omega))).grown hg (by omega) (fun k hk => by have := (own_lt ho hk).1; omega)
theorem Four.round {W wx y u z : World} {lo hi kb B0 N1 len mp r : Nat} {es es2 : List E} {la : Option Addr} {lcap : Nat} {lv' : Value} {vi' vm' : Value} {ys : List Value} (hB0 : B0 ≤ lo) (hBW : B0 ≤ W.heap.size) (hlr : len + r ≤ 16777216)
    (h1 : es2.length = r) (h3 : ∀ e, e ∈ es ++ es2 → Reads wx e) (h4 : wx.ownsRow lo 42 4 (.slice la (len + r) lcap) (len + r) ys) (h5 : Full N1 ys (len + r))
    (h6 : ∀ e, e ∈ es ++ es2 → e.At (fun g => Value.ownBlock (.slice la (len + r) lcap) = some g → e.mark = N1 ∧ e.len ≤ len + r)) (h7 : ∀ g, Value.ownBlock (.slice la (len + r) lcap) = some g → ((lo ≤ g ∧ g < hi) ∨ W.heap.size ≤ g) ∧ g ≠ mp)
    (h8 : Ins lo hi W.heap.size es2) (h9 : Kp lo hi W wx) (h10 : Below B0 W wx) (h11 : mp < wx.heap.size) (h12 : W.heap.size ≤ mp) (h13 : wx.heap[mp]? = some (.cells #[.int .u32 0, .int .u16 0, .string (markB N1), .bool false] 42 (0, 0)))
    (hy : RowsG y kb B0 N1 vi' vm' ((es ++ es2).map E.v ++ [.slice la (len + r) lcap]) ((es ++ es2).map (fun e => Value.int .i64 e.mark) ++ [.int .i64 N1])) (hky : Kp 0 0 wx y) (hby : Below B0 wx y)
    (hu : Below y.heap.size y u) (hz : z.ownsRow lo 42 4 lv' (len + r + 1) (ys ++ [.int .u32 0, .int .u16 0, .string (markB N1), .bool false])) (hgr : u.grownBy z (Value.ownBlock (.slice la (len + r) lcap)))
    (hat : lv'.ownBlock = Value.ownBlock (.slice la (len + r) lcap) ∨ ∃ g, lv'.ownBlock = some g ∧ u.heap.size ≤ g ∧ u.grownBy z none) :
    ∃ e, Four W z lo hi kb B0 N1 len mp es (es2 ++ [e]) lv' (r + 1) := by
  have sy := hby.size
  have su := hu.size
  have sz := hgr.size
  have own_y : y.ownsRow lo 42 4 (.slice la (len + r) lcap) (len + r) ys := own_keptT0 h4 (fun g cs hc => hky g _ hc (.inr (Nat.zero_le _)) (NB.item _ _))
  have own_u := own_below own_y hu
  -- the new entry
  obtain ⟨e0, he0⟩ : ∃ e0 : E, e0 = ⟨la, len + r, lcap, N1, hlr⟩ := ⟨_, rfl⟩
  have hla : la = none → len + r = 0 := by
    rintro rfl
    rcases h4.2 with ⟨_, h0⟩ | ⟨g, cap, cur, hv, _⟩
    · exact h0
    · simp at hv
  have hlb : ∀ a, la = some a → a = ⟨a.block, 0, none⟩ ∧ Value.ownBlock (.slice la (len + r) lcap) = some a.block := by
    rintro a rfl
    rcases h4.2 with ⟨hv, _⟩ | ⟨g, cap, cur, hv, _⟩
    · simp at hv
    · simp at hv
      obtain ⟨rfl, rfl⟩ := hv
      exact ⟨rfl, rfl⟩
  have reads_y : ∀ e, e ∈ es ++ es2 → Reads y e := fun e he => (h3 e he).kept (h3 e he).lt (fun g cur _ hc => hky g _ hc (.inr (Nat.zero_le _)) (NB.item _ _))
  have reads_u : ∀ e, e ∈ es ++ es2 → Reads u e := fun e he => (reads_y e he).kept (reads_y e he).lt (fun g cur hg hc => (hu.block g hg).trans hc)
  have reads_0 : Reads u e0 := Full.reads own_u h5 e0 (by rw [he0]) (by rw [he0]; exact Nat.le_refl _) (by rw [he0]; exact hla) (by rw [he0]; exact hlb)
  have all_u : ∀ e, e ∈ es ++ (es2 ++ [e0]) → Reads u e := by
    intro e he
    rw [← List.append_assoc] at he
    rcases List.mem_append.1 he with he | he
    · exact reads_u e he
    · obtain rfl : e = e0 := by simpa using he
      exact reads_0
  have at_u : ∀ e, e ∈ es ++ (es2 ++ [e0]) → e.At (fun g => Value.ownBlock (.slice la (len + r) lcap) = some g → e.mark = N1 ∧ e.len ≤ len + r) := by
    intro e he
    rw [← List.append_assoc] at he
    rcases List.mem_append.1 he with he | he
    · exact h6 e he
    · obtain rfl : e = e0 := by simpa using he
      rw [he0]
      exact fun _ _ _ _ => ⟨rfl, Nat.le_refl _⟩
  have hgu : RowsG u kb B0 N1 vi' vm' ((es ++ es2).map E.v ++ [.slice la (len + r) lcap]) ((es ++ es2).map (fun e => Value.int .i64 e.mark) ++ [.int .i64 N1]) :=
    hy.kept (row := none) ⟨hu.os, hu.tape, hu.output, hu.size, fun k hk _ => hu.block k hk⟩ (fun r hr => by cases hr)
  have hgz := hgu.kept hgr (fun r hr => by obtain ⟨cur, hc⟩ := row_obj own_u r hr; exact ⟨cur, _, hc⟩)
  have hfull := h5.snoc
  refine ⟨e0, vi', vm', _, by simp [h1], ?_, ?_, by rw [← Nat.add_assoc]; exact hz, by rw [← Nat.add_assoc]; exact hfull, ?_, ?_, ?_, ?_, ?_, by omega, h12, ?_⟩
  · apply RowsG.to2
    have e1 : (es ++ (es2 ++ [e0])).map E.v = (es ++ es2).map E.v ++ [.slice la (len + r) lcap] := by rw [← List.append_assoc, List.map_append, he0]; rfl
    have e2 : (es ++ (es2 ++ [e0])).map (fun e => Value.int .i64 e.mark) = (es ++ es2).map (fun e => Value.int .i64 e.mark) ++ [.int .i64 N1] := by rw [← List.append_assoc, List.map_append, he0]; rfl
    rw [e1, e2]
    exact hgz
  · intro e he
    by_cases hin : ∃ a, e.a = some a ∧ 0 < e.len ∧ Value.ownBlock (.slice la (len + r) lcap) = some a.block
    · obtain ⟨a, ha, hl0, hob⟩ := hin
      obtain ⟨hm, hlen⟩ := at_u e he hl0 a ha hob
      rcases hat with hat | ⟨g, _, _, hnone⟩
      · refine Full.reads hz hfull e hm (by omega) (fun hn => by rw [hn] at ha; cases ha) (fun a' ha' => ?_)
        rw [ha] at ha'
        cases ha'
        refine ⟨?_, by rw [hat]; exact hob⟩
        rcases all_u e he with h0 | ⟨g, cur, hg, _⟩
        · omega
        · rw [ha] at hg
          cases hg
          rfl
      · exact (all_u e he).kept (all_u e he).lt (fun g cur hg hc => (hnone.block g hg (by simp)).trans hc)
    · refine (all_u e he).kept (S := fun g => g < u.heap.size ∧ some g ≠ Value.ownBlock (.slice la (len + r) lcap)) (fun hl0 a ha => ⟨(all_u e he).lt hl0 a ha, fun hh => hin ⟨a, ha, hl0, hh.symm⟩⟩) (fun g cur hg hc => (hgr.block g hg.1 hg.2).trans hc)
  · intro e he hl0 a ha hob
    rcases hat with hat | ⟨g, hg, hge, _⟩
    · rw [hat] at hob
      obtain ⟨hm, hlen⟩ := at_u e he hl0 a ha hob
      exact ⟨hm, by omega⟩
    · have : a.block < u.heap.size := (all_u e he).lt hl0 a ha
      rw [hg] at hob
      simp at hob
      omega
  · intro g hg
    rcases hat with hat | ⟨g', hg', hge, _⟩
    · rw [hat] at hg
      exact h7 g hg
    · rw [hg'] at hg
      simp at hg
      subst hg
      have := h10.size
      exact ⟨.inr (by omega), by omega⟩
  · intro e he
    rcases List.mem_append.1 he with he | he
    · exact h8 e he
    · obtain rfl : e = e0 := by simpa using he
      rw [he0]
      intro _ a ha
      exact (h7 _ (hlb a ha).2).1
  · exact ((h9.then0 hky).then0 (Kp.below hu)).step hgr (fun r hr => by rcases (h7 r hr).1 with h | h; exact .inl h; exact .inr (.inl h))
  · exact ((h10.trans hby).trans (hu.mono (by have := h10.size; omega))).grown hgr (by have := h10.size; omega) (fun k hk => by rcases (h7 k hk).1 with h | h <;> omega)
  · have hmy := hky mp _ h13 (.inr (Nat.zero_le _)) (NB.item _ _)
    have hmu := (hu.block mp (by omega)).trans hmy
    exact (hgr.block mp (by omega) (fun e => (h7 mp e.symm).2 rfl)).trans hmu
end Go.Proofs.Ytpibpdpedjinhaa.Fr
