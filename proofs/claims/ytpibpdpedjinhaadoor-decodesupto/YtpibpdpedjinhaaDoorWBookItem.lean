/- The walk of the verifier's book.item: a list that came out is full of its mark, and so are the longer ones that are laid behind it; nothing else has turned. -/
import Derived.Test.YtpibpdpedjinhaaDoorWBook2
import Derived.Deep.AppendLies
import Derived.Deep.RegionHeld3
namespace Go.Proofs.YtpibpdpedjinhaaDoor
open Go.RowKit Go.Joins

def Off (lo hi : Nat) (es : List E) : Prop := ∀ e, e ∈ es → e.At (fun g => g < lo ∨ hi ≤ g)
def psum (n : Nat) (i : Im.It) (k : Nat) : Nat := ((i.kids.take k).map (Im.wt n)).sum
theorem psum_step {n : Nat} {i : Im.It} {k : Nat} (h : k < i.kids.length) : psum n i (k + 1) = psum n i k + Im.wt n i.kids[k] := by
  unfold psum
  rw [List.take_succ_eq_append_getElem h, List.map_append, List.sum_append]
  rfl
theorem psum_all (n : Nat) (i : Im.It) (k : Nat) : psum n i k + 1 ≤ Im.wt (n + 1) i := by
  have h : ∀ (l : List Nat) (k : Nat), (l.take k).sum ≤ l.sum := by
    intro l
    induction l with
    | nil => intro k; simp
    | cons a l ih =>
      intro k
      cases k with
      | zero => simp
      | succ k => have := ih k; simp only [List.take_succ_cons, List.sum_cons]; omega
  have := h (i.kids.map (Im.wt n)) k
  rw [← List.map_take] at this
  simp only [Im.wt, psum]
  omega

/-- the lists of the elder kids are written down; the others stand as they came -/
def Kids (W wx : World) (n lo hi kb B0 N : Nat) (lv : Value) (i : Im.It) (es : List E) (xs : List Value) (L H : Nat → Nat) (box : Obj) (k : Nat) : Prop :=
  ∃ N1 es1, N1 ≤ N + psum n i k ∧ es1.length ≤ 4 * psum n i k ∧ Book wx kb B0 N1 (es ++ es1) ∧ (∀ e, e ∈ es1 → e.At (fun g => (lo ≤ g ∧ g < hi ∧ (∀ j, k ≤ j → j < i.kids.length → g < L j ∨ H j ≤ g) ∧ lv.ownBlock ≠ some g) ∨ W.heap.size ≤ g)) ∧
    Kp lo hi W wx ∧ Below B0 W wx ∧ W.heap.size < wx.heap.size ∧ wx.heap[W.heap.size]? = some box ∧ wx.ownsRow lo 24 3 lv i.kids.length xs ∧
    ∀ (j : Nat) (hj : j < i.kids.length), k ≤ j → ∃ d0 d1 d2, xs[j * 3]? = some d0 ∧ xs[j * 3 + 1]? = some d1 ∧ xs[j * 3 + 2]? = some d2 ∧ Tr wx n (L j) (H j) d0 d1 d2 (i.kids[j])
theorem own_keptT {w w' : World} {base size n : Nat} {v : Value} {xs : List Value} (h : w.ownsRow base 24 size v n xs) (hk : ∀ g cs, v.ownBlock = some g → w.heap[g]? = some (.cells cs 24 (0, 0)) → w'.heap[g]? = some (.cells cs 24 (0, 0))) : w'.ownsRow base 24 size v n xs := by
  obtain ⟨h1, h2⟩ := h
  refine ⟨h1, ?_⟩
  rcases h2 with h2 | ⟨g, cap, cur, hv, hg, hh, r⟩
  · exact .inl h2
  · exact .inr ⟨g, cap, cur, hv, hg, hk g cur (by rw [hv]; rfl) hh, r⟩
/-- one kid more -/
theorem Kids.step {W wr w1 : World} {n lo hi kb B0 N : Nat} {lv : Value} {i : Im.It} {es : List E} {xs : List Value} {L H : Nat → Nat} {cs : Array Value} {k : Nat} (hk : k < i.kids.length) (hhi : hi ≤ W.heap.size)
    (q3 : ∀ j, j < i.kids.length → lo ≤ L j ∧ L j ≤ H j ∧ H j ≤ hi ∧ (∀ g, lv.ownBlock = some g → g < L j ∨ H j ≤ g)) (q4 : ∀ a b, a < b → b < i.kids.length → H a ≤ L b)
    {N1 N2 : Nat} {es1 es2 : List E} (h1 : N1 ≤ N + psum n i k) (h2 : es1.length ≤ 4 * psum n i k) (h4 : ∀ e, e ∈ es1 → e.At (fun g => (lo ≤ g ∧ g < hi ∧ (∀ j, k ≤ j → j < i.kids.length → g < L j ∨ H j ≤ g) ∧ lv.ownBlock ≠ some g) ∨ W.heap.size ≤ g))
    (h5 : Kp lo hi W wr) (h6 : Below B0 W wr) (h7 : W.heap.size < wr.heap.size) (h8 : wr.heap[W.heap.size]? = some (.cells cs 24 (0, 0))) (h9 : wr.ownsRow lo 24 3 lv i.kids.length xs)
    (h10 : ∀ (j : Nat) (hj : j < i.kids.length), k ≤ j → ∃ d0 d1 d2, xs[j * 3]? = some d0 ∧ xs[j * 3 + 1]? = some d1 ∧ xs[j * 3 + 2]? = some d2 ∧ Tr wr n (L j) (H j) d0 d1 d2 (i.kids[j]))
    (g1 : N2 ≤ N1 + Im.wt n i.kids[k]) (g2 : es2.length ≤ 4 * Im.wt n i.kids[k]) (g3 : Book w1 kb B0 N2 (es ++ es1 ++ es2)) (g4 : Ins (L k) (H k) wr.heap.size es2) (g5 : Kp (L k) (H k) wr w1) (g6 : Below B0 wr w1) :
    Kids W w1 n lo hi kb B0 N lv i es xs L H (.cells cs 24 (0, 0)) (k + 1) := by
  have hps := psum_step (n := n) hk
  obtain ⟨a1, a2, a3, a4⟩ := q3 k hk
  refine ⟨N2, es1 ++ es2, by omega, by rw [List.length_append]; omega, by rw [← List.append_assoc]; exact g3, ?_, h5.trans g5 a1 a3, h6.trans g6, Nat.lt_of_lt_of_le h7 g6.size, ?_, ?_, ?_⟩
  · intro e he
    rcases List.mem_append.1 he with he | he
    · intro h0 a ha
      rcases h4 e he h0 a ha with ⟨b1, b2, b3, b4⟩ | b
      · exact .inl ⟨b1, b2, fun j hj hj2 => b3 j (by omega) hj2, b4⟩
      · exact .inr b
    · intro h0 a ha
      rcases g4 e he h0 a ha with ⟨b1, b2⟩ | b
      · refine .inl ⟨by omega, by omega, fun j hj hj2 => .inl ?_, fun e => ?_⟩
        · have := q4 k j (by omega) hj2; omega
        · have := a4 _ e; omega
      · exact .inr (by omega)
  · exact g5 _ _ h8 (.inr (by omega)) (NB.item _ _)
  · exact own_keptT h9 (fun g cs hg hc => g5 g _ hc (a4 g hg) (NB.item _ _))
  · intro j hj hkj
    obtain ⟨d0, d1, d2, e0, e1, e2, e3⟩ := h10 j hj (by omega)
    refine ⟨d0, d1, d2, e0, e1, e2, Tr.keptT n _ _ _ _ _ _ (fun m cs m1 m2 hm => g5 m _ hm (.inr ?_) (NB.item _ _)) e3⟩
    have := q4 k j (by omega) hj
    omega

theorem info_items : (Tryd.prog.info? 22).map (fun i => (i.zero, i.size, i.bytes)) = some (some (.slice none 0 0), 1, 24) := by kernel_rfl
theorem info_intB : (Tryd.prog.info? 3).map (fun i => (i.zero, i.size, i.bytes)) = some (some (.int .i64 0), 1, 8) := by kernel_rfl

def BitemSaid (n : Nat) : Prop := ∀ (i : Im.It) (c0 c1 c2 : Value) (lo hi : Nat) (W : World) (kb B0 N : Nat) (es : List E),
    Tr W n lo hi c0 c1 c2 i → lo ≤ hi → hi ≤ W.heap.size → B0 ≤ lo → Im.wt n i ≤ 2097152 → N + Im.wt n i ≤ 33554432 → es.length + 4 * Im.wt n i ≤ 134217728 → Book W kb B0 N es → Off lo hi es →
    Calls Tryd.prog 13 #[.pointer (some ⟨kb, 0, none⟩), .agg #[c0, c1, c2]] W fun e W' => e = .returned (.tuple #[]) ∧ ∃ N' es', N' ≤ N + Im.wt n i ∧ es'.length ≤ 4 * Im.wt n i ∧ Book W' kb B0 N' (es ++ es') ∧ Ins lo hi W.heap.size es' ∧ Kp lo hi W W' ∧ Below B0 W W'

set_option maxRecDepth 100000 in
set_option maxHeartbeats 4000000 in
theorem bitem_any : ∀ n : Nat, BitemSaid n := by
  intro n
  induction n with
  | zero => intro i c0 c1 c2 lo hi W kb B0 N es h; cases h
  | succ n ih =>
    intro i c0 c1 c2 lo hi W kb B0 N es ht hlh hhi hB0 hw hN hes hbook hoff
    have hdp := In.dp _ _ _ _ _ (Tr.inn (n + 1) lo hi c0 c1 c2 i (Nat.le_refl _) ht)
    have hkl := Im.kids_le hdp
    obtain ⟨⟨rfl, rfl⟩, xs, L, H, q1, q2, q3, q4, q5⟩ := ht
    obtain ⟨la, lcap, rfl⟩ := owns_slice q1
    obtain ⟨S, hS⟩ : ∃ S : ByteArray, (⟨i.bytes.toArray⟩ : ByteArray) = S := ⟨_, rfl⟩
    rw [hS]
    clear hS
    have hpa := psum_all n i
    have hlen : i.kids.length ≤ 2097152 := by omega
    obtain ⟨X, hX⟩ : ∃ X : World, X = W.alloc (.cells #[.bool i.list, .string S, .slice la i.kids.length lcap] 24) := ⟨_, rfl⟩
    have hXs : X.heap.size = W.heap.size + 1 := by rw [hX]; simp
    have hXb : Below W.heap.size W X := by rw [hX]; exact (Below.refl _ W).alloc (Nat.le_refl _) _
    have hX0 : X.heap[W.heap.size]? = some (.cells #[.bool i.list, .string S, .slice la i.kids.length lcap] 24 (0, 0)) := by rw [hX]; exact heap_alloc_new _ _
    have hlo2 : B0 ≤ W.heap.size := by omega
    have hst : Kids W X n lo hi kb B0 N (.slice la i.kids.length lcap) i es xs L H (.cells #[.bool i.list, .string S, .slice la i.kids.length lcap] 24 (0, 0)) 0 := by
      obtain ⟨vi, vm, r1, r2⟩ := hbook
      refine ⟨N, [], Nat.le_add_right _ _, Nat.zero_le _, ⟨vi, vm, ?_, ?_⟩, fun e he => by simp at he, Kp.below hXb, hXb.mono hlo2, by omega, hX0, own_below q1 hXb, fun j hj _ => ?_⟩
      · rw [List.append_nil]
        exact Book.kept r1 (fun k cs t _ hc => (hXb.block k (Array.getElem?_eq_some_iff.1 hc).1).trans hc)
      · rw [List.append_nil]
        exact fun e he => (r2 e he).kept (r2 e he).lt (fun g cur hg hc => (hXb.block g hg).trans hc)
      · obtain ⟨d0, d1, d2, e0, e1, e2, e3⟩ := q5 j hj
        have := q3 j hj
        exact ⟨d0, d1, d2, e0, e1, e2, Tr.kept n _ _ _ _ _ _ (fun m _ m2 => hXb.block m (by omega)) e3⟩
    have Hih : Hid _ := ih
    have Hq : Hid _ := And.intro q2 (And.intro q3 q4)
    have Hoff : Hid _ := hoff
    have Hst : Hid _ := hst
    clear ih q1 q2 q3 q4 q5 hbook hoff hst hX0
    go_enter Tryd.func13, Tryd.ntmps13
    go_wp2_with fail
    rw [← hX]
    clear hX
    go_loopg [4] i.kids.length (fun g v wx => ∃ k : Nat, k ≤ i.kids.length ∧ v = .int .i64 k ∧ g = i.kids.length - k ∧ Hid (Kids W wx n lo hi kb B0 N (.slice la i.kids.length lcap) i es xs L H (.cells #[.bool i.list, .string S, .slice la i.kids.length lcap] 24 (0, 0)) k))
    case atStart => exact ⟨0, Nat.zero_le _, rfl, rfl, Hst.out⟩
    case round =>
      obtain ⟨k, hk, rfl, rfl, HK⟩ := hrel
      obtain ⟨N1, es1, h1, h2, h3, h4, h5, h6, h7, h8, h9, h10⟩ := HK.out
      obtain ⟨q2, q3, q4⟩ := Hq.out
      have p2 : wr.cell? ⟨W.heap.size, 2, none⟩ = some (.slice la i.kids.length lcap) := by rw [Lib.cell_of_heap h8]; rfl
      by_cases hlt : k < i.kids.length
      · have hlt' : (k : Int) < (i.kids.length : Int) := by omega
        obtain ⟨g0, cap0, hsh⟩ := owns_shape h9 (by omega)
        simp only [Value.slice.injEq, true_and] at hsh
        obtain ⟨rfl, rfl⟩ := hsh
        obtain ⟨d0, d1, d2, e0, e1, e2, e3⟩ := h10 k hlt (Nat.le_refl _)
        obtain ⟨ka, kcap, rfl, rfl, rfl⟩ := e3.shape
        have hcl := h9.cells (g := g0) rfl
        have r0 : wr.cell? ⟨g0, k * 3, none⟩ = some (.bool i.kids[k].list) := by have := hcl _ _ e0; simpa [addr_add'] using this
        have r1 : wr.cell? ⟨g0, k * 3 + 1, none⟩ = some (.string ⟨i.kids[k].bytes.toArray⟩) := by have := hcl _ _ e1; simpa [addr_add'] using this
        have r2 : wr.cell? ⟨g0, k * 3 + 2, none⟩ = some (.slice ka i.kids[k].kids.length kcap) := by have := hcl _ _ e2; simpa [addr_add'] using this
        have hps := psum_step (n := n) hlt
        have hp2 := hpa (k + 1)
        obtain ⟨a1, a2, a3, a4⟩ := q3 k hlt
        have hoffk : Off (L k) (H k) (es ++ es1) := by
          intro e he
          rcases List.mem_append.1 he with he | he
          · intro h0 a ha
            have : a.block < lo ∨ hi ≤ a.block := Hoff.out e he h0 a ha
            show a.block < L k ∨ H k ≤ a.block
            omega
          · intro h0 a ha
            rcases h4 e he h0 a ha with ⟨_, _, b3, _⟩ | b
            · exact b3 k (Nat.le_refl _) hlt
            · show a.block < L k ∨ H k ≤ a.block
              omega
        have hcall := fun (_ : Unit) => Hih.out i.kids[k] _ _ _ (L k) (H k) wr kb B0 N1 (es ++ es1) e3 a2 (by omega) (by omega) (by omega) (by omega) (by rw [List.length_append]; omega) h3 hoffk
        have Hcall : Hid _ := hcall
        have H10 : Hid _ := And.intro h4 (And.intro h5 (And.intro h6 (And.intro h9 h10)))
        have H8 : Hid _ := h8
        clear hcall h3 h4 h5 h9 h10 e3 hoffk hcl h8
        go_wp2_with fail
        refine (Hcall.out ()).mono ?_
        rintro e w1 ⟨rfl, N2, es2, f1, f2, f3, f4, f5, f6⟩
        obtain ⟨h4, h5, h6, h9, h10⟩ := H10.out
        have hnew : Hid (Kids W w1 n lo hi kb B0 N (.slice (some ⟨g0, 0, none⟩) i.kids.length lcap) i es xs L H (.cells #[.bool i.list, .string S, .slice (some ⟨g0, 0, none⟩) i.kids.length lcap] 24 (0, 0)) (k + 1)) :=
          Kids.step hlt hhi q3 q4 h1 h2 h4 h5 h6 h7 H8.out h9 h10 f1 f2 f3 f4 f5 f6
        clear h4 h5 h6 h9 h10 f1 f2 f3 f4 f5 f6 q2 q3 q4 r0 r1 r2 p2
        go_wp2_with fail
        go_roundg (i.kids.length - (k + 1))
        case measure => omega
        case rel => exact ⟨k + 1, by omega, by go_num, rfl, hnew.out⟩
      · obtain rfl : k = i.kids.length := by omega
        have hlt' : ¬ (i.kids.length : Int) < (i.kids.length : Int) := by omega
        obtain ⟨V, rfl⟩ : ∃ V : World, V = wr := ⟨_, rfl⟩
        obtain ⟨vi, vm, hr2, hrd⟩ := h3
        have hbk := hr2.1
        have kb0 : V.cell? ⟨kb, 0, none⟩ = some (.int .i64 N1) := by rw [Lib.cell_of_heap hbk]; rfl
        have hp2 := hpa i.kids.length
        have H3 : Hid _ := And.intro hr2 hrd
        have H4 : Hid _ := And.intro h4 (And.intro h5 (And.intro h6 h9))
        clear hr2 hrd h4 h5 h6 h9 h10 h8 hbk
        go_wp2_with fail
        refine (word_any N1 V).mono ?_
        rintro e w2 ⟨rfl, hb2⟩
        have s2 := hb2.size
        obtain ⟨Z, hZ⟩ : ∃ Z : World, Z = w2.alloc (.cells #[.bool false, .string (markB N1), .slice none 0 0] 24) := ⟨_, rfl⟩
        have hZs : Z.heap.size = w2.heap.size + 1 := by rw [hZ]; simp
        have hZb : Below V.heap.size V Z := by rw [hZ]; exact hb2.alloc s2 _
        have hZm : Z.heap[w2.heap.size]? = some (.cells #[.bool false, .string (markB N1), .slice none 0 0] 24 (0, 0)) := by rw [hZ]; exact heap_alloc_new _ _
        have hown0 : Z.ownsRow lo 24 3 (.slice la i.kids.length lcap) i.kids.length xs := own_below H4.out.2.2.2 hZb
        have hgl : ∀ g, Value.ownBlock (.slice la i.kids.length lcap) = some g → lo ≤ g ∧ g < V.heap.size := fun g hg => own_lt H4.out.2.2.2 hg
        have HZ : Hid _ := And.intro hZb (And.intro hZm (And.intro hown0 hgl))
        obtain ⟨MB, hMB⟩ : ∃ MB : ByteArray, markB N1 = MB := ⟨_, rfl⟩
        rw [hMB]
        rw [hMB] at hZ hZm
        have HMB : Hid _ := hMB
        clear hZb hown0 hgl kb0 p2
        go_wp2_with fail
        rw [← hZ]
        clear hZ hMB
        go_loopg [7] i.kids.length (fun g v wx => ∃ j : Nat, j ≤ i.kids.length ∧ v = .int .i64 j ∧ g = i.kids.length - j ∧ Hid (∃ ys, wx.ownsRow lo 24 3 (.slice la i.kids.length lcap) i.kids.length ys ∧ (∀ q, q < j → ys[q * 3]? = some (.bool false) ∧ ys[q * 3 + 1]? = some (.string (markB N1)) ∧ ys[q * 3 + 2]? = some (.slice none 0 0)) ∧ Z.grownBy wx (Value.ownBlock (.slice la i.kids.length lcap))))
        case atStart => exact ⟨0, Nat.zero_le _, rfl, rfl, xs, HZ.out.2.2.1, fun q hq => by omega, World.grownBy.refl _ _⟩
        case round =>
          obtain ⟨j, hj, rfl, rfl, HJ⟩ := hrel
          obtain ⟨ys, y1, y2, y3⟩ := HJ.out
          have sx := y3.size
          have hzm := HZ.out.2.1
          have hgl := HZ.out.2.2.2
          have hm1 := (y3.block w2.heap.size (by omega) (fun e => by have := (hgl _ e.symm).2; omega)).trans hZm
          have m0 : wr.cell? ⟨w2.heap.size, 0, none⟩ = some (.bool false) := by rw [Lib.cell_of_heap hm1]; rfl
          have m1 : wr.cell? ⟨w2.heap.size, 1, none⟩ = some (.string MB) := by rw [Lib.cell_of_heap hm1]; rfl
          have m2 : wr.cell? ⟨w2.heap.size, 2, none⟩ = some (.slice none 0 0) := by rw [Lib.cell_of_heap hm1]; rfl
          by_cases hlt : j < i.kids.length
          · have hlt' : (j : Int) < (i.kids.length : Int) := by omega
            obtain ⟨g0, cap0, hsh⟩ := owns_shape y1 (by omega)
            simp only [Value.slice.injEq, true_and] at hsh
            obtain ⟨rfl, rfl⟩ := hsh
            have hxl := xs_len y1
            have hcl := y1.cells (g := g0) rfl
            have hg0 : g0 ≠ w2.heap.size := by have := (hgl g0 rfl).2; omega
            obtain ⟨x0, hx0⟩ : ∃ x0, ys[j * 3]? = some x0 := ⟨_, List.getElem?_eq_getElem (by omega)⟩
            obtain ⟨x1, hx1⟩ : ∃ x1, ys[j * 3 + 1]? = some x1 := ⟨_, List.getElem?_eq_getElem (by omega)⟩
            obtain ⟨x2, hx2⟩ : ∃ x2, ys[j * 3 + 2]? = some x2 := ⟨_, List.getElem?_eq_getElem (by omega)⟩
            have r0 : wr.cell? ⟨g0, j * 3, none⟩ = some x0 := by have := hcl _ _ hx0; simpa [addr_add'] using this
            have r1 : wr.cell? ⟨g0, j * 3 + 1, none⟩ = some x1 := by have := hcl _ _ hx1; simpa [addr_add'] using this
            have r2 : wr.cell? ⟨g0, j * 3 + 2, none⟩ = some x2 := by have := hcl _ _ hx2; simpa [addr_add'] using this
            have fz0 : wr.frozen? ⟨g0, j * 3, none⟩ = false := own_frozen y1
            have fz1 : wr.frozen? ⟨g0, j * 3 + 1, none⟩ = false := own_frozen y1
            have fz2 : wr.frozen? ⟨g0, j * 3 + 2, none⟩ = false := own_frozen y1
            have hnew : Hid (∃ ys', (((wr.setCell ⟨g0, j * 3, none⟩ (.bool false)).setCell ⟨g0, j * 3 + 1, none⟩ (.string MB)).setCell ⟨g0, j * 3 + 2, none⟩ (.slice none 0 0)).ownsRow lo 24 3 (.slice (some ⟨g0, 0, none⟩) i.kids.length lcap) i.kids.length ys' ∧ (∀ q, q < j + 1 → ys'[q * 3]? = some (.bool false) ∧ ys'[q * 3 + 1]? = some (.string (markB N1)) ∧ ys'[q * 3 + 2]? = some (.slice none 0 0)) ∧ Z.grownBy (((wr.setCell ⟨g0, j * 3, none⟩ (.bool false)).setCell ⟨g0, j * 3 + 1, none⟩ (.string MB)).setCell ⟨g0, j * 3 + 2, none⟩ (.slice none 0 0)) (Value.ownBlock (.slice (some ⟨g0, 0, none⟩) i.kids.length lcap))) := by
              refine ⟨_, own_put3 y1 j _ _ _, by rw [← HMB.out]; exact Full.put hxl hlt y2, ?_⟩
              refine ⟨y3.os, y3.tape, y3.output, by simp [World.setCell]; exact sx, fun k hk hne => ?_⟩
              have hkg : k ≠ g0 := fun e => hne (by rw [e]; rfl)
              rw [Below.heap_setCell _ _ _ _ hkg, Below.heap_setCell _ _ _ _ hkg, Below.heap_setCell _ _ _ _ hkg]
              exact y3.block k hk hne
            clear y1 y2 y3 hcl hx0 hx1 hx2 hzm hgl hm1
            go_wp2_with fail
            go_roundg (i.kids.length - (j + 1))
            case measure => omega
            case rel => exact ⟨j + 1, by omega, by go_num, rfl, hnew.out⟩
          · obtain rfl : j = i.kids.length := by omega
            have hlt' : ¬ (i.kids.length : Int) < (i.kids.length : Int) := by omega
            obtain ⟨q2, q3, q4⟩ := Hq.out
            obtain ⟨h4, h5, h6, h9⟩ := H4.out
            have hst : Hid (Four W wr lo hi kb B0 N1 i.kids.length w2.heap.size (es ++ es1) [] (.slice la i.kids.length lcap) 0) := by
              refine Four.start (lv := .slice la i.kids.length lcap) hB0 hlo2 hhi H3.out.1 H3.out.2 ?_ HZ.out.1 y1 y2 y3 HZ.out.2.2.1 q2 h5 h6 s2 (by omega) (by rw [HMB.out]; exact hm1)
              intro e he
              rcases List.mem_append.1 he with he | he
              · intro hl0 a ha hob
                have : a.block < lo ∨ hi ≤ a.block := Hoff.out e he hl0 a ha
                have := q2 _ hob
                have := (hgl _ hob).1
                omega
              · intro hl0 a ha hob
                rcases h4 e he hl0 a ha with ⟨_, _, _, b4⟩ | b
                · exact b4 hob
                · have := q2 _ hob
                  omega
            clear q2 q3 q4 h4 h5 h6 h9 y1 y2 y3 hzm hgl hm1 m0 m1 m2
            obtain ⟨iI, hiI, hiI0, hiI1, hiI2⟩ := info_parts info_items
            have HiI : Hid _ := And.intro hiI (And.intro hiI0 (And.intro hiI1 hiI2))
            obtain ⟨iN, hiN, hiN0, hiN1, hiN2⟩ := info_parts info_intB
            have HiN : Hid _ := And.intro hiN (And.intro hiN0 (And.intro hiN1 hiN2))
            obtain ⟨iT, hiT, hiT0, hiT1, hiT2⟩ := info_parts info_item
            have HiT : Hid _ := And.intro hiT (And.intro hiT0 (And.intro hiT1 hiT2))
            clear hiI hiI0 hiI1 hiI2 hiN hiN0 hiN1 hiN2 hiT hiT0 hiT1 hiT2
            go_wp2_with fail
            go_loopg [5, 8] 4 (fun g v5 v8 wx => ∃ (r : Nat) (es2 : List E) (a5 : Option Addr) (cap5 : Nat), r ≤ 4 ∧ v8 = .int .i64 r ∧ v5 = .slice a5 (i.kids.length + r) cap5 ∧ g = 4 - r ∧ Hid (Four W wx lo hi kb B0 N1 i.kids.length w2.heap.size (es ++ es1) es2 (.slice a5 (i.kids.length + r) cap5) r))
            case atStart => exact ⟨0, [], la, lcap, Nat.zero_le _, rfl, rfl, rfl, hst.out⟩
            case round =>
              obtain ⟨r, es2, a5, cap5, hr4, rfl, rfl, rfl, HF⟩ := hrel
              obtain ⟨vi1, vm1, ys5, f1, f2, f3, f4, f5, f6, f7, f8, f9, f10, f11, f12, f13⟩ := HF.out
              obtain ⟨ai, ci, hvi⟩ := owns_slice f2.2.2.1
              obtain ⟨am, cm, hvm⟩ := owns_slice f2.2.2.2
              subst hvi hvm
              have hL : (es ++ es1 ++ es2).length = es.length + es1.length + r := by simp [f1]; omega
              obtain ⟨Ln, hLn⟩ : ∃ Ln, (es ++ es1 ++ es2).length = Ln := ⟨_, rfl⟩
              have hG := RowsG.of2 f2
              rw [hLn] at f2 hG hL
              have hLb : Ln ≤ 134217728 := by omega
              clear hL
              obtain ⟨hbk, hkb, hvi, hvm⟩ := f2
              rw [hLn] at hvi hvm
              have hBwr : B0 ≤ wr.heap.size := by have := f10.size; omega
              obtain ⟨VS, hVS⟩ : ∃ VS, (es ++ es1 ++ es2).map E.v = VS := ⟨_, rfl⟩
              obtain ⟨MS, hMS⟩ : ∃ MS, (es ++ es1 ++ es2).map (fun e => Value.int .i64 e.mark) = MS := ⟨_, rfl⟩
              have hVl : VS.length = Ln := by rw [← hVS, List.length_map, hLn]
              have hMl : MS.length = Ln := by rw [← hMS, List.length_map, hLn]
              rw [hVS] at hvi hG
              rw [hMS] at hvm hG
              have HVM : Hid _ := And.intro hVS (And.intro hMS (And.intro hVl hMl))
              clear hVS hMS hVl hMl
              have kb0 : wr.cell? ⟨kb, 0, none⟩ = some (.int .i64 N1) := by rw [Lib.cell_of_heap hbk]; rfl
              have kb1 : wr.cell? ⟨kb, 1, none⟩ = some (.slice ai Ln ci) := by rw [Lib.cell_of_heap hbk]; rfl
              have hvi3 := fun o : Obj => hvi.alloc o
              have HG : Hid _ := And.intro hG (And.intro hbk (And.intro hvi hvm))
              have HFF : Hid _ := And.intro f3 (And.intro f4 (And.intro f5 (And.intro f6 (And.intro f7 (And.intro f8 (And.intro f9 (And.intro f10 f13)))))))
              have Hvi3 : Hid _ := hvi3
              clear hG hbk hvi hvm f3 f4 f5 f6 f7 f8 f9 f10 f13 hvi3 HF
              by_cases hlt : r < 4
              · have hlt' : (r : Int) < 4 := by omega
                go_wp2_with (at_builtin; refine wpList_append_mine _ rfl (.tmp 49) (.tmp 51) 34 rfl B0 22 iI _ 1 24 Tryd.underlying34 HiI.out.1 HiI.out.2.1 HiI.out.2.2.1 HiI.out.2.2.2 rfl (by decide) _ Ln _ rfl (Hvi3.out _) ⟨wr.heap.size, 0, none⟩ 1 1 [.slice a5 (i.kids.length + r) cap5] rfl (by decide) rfl ?c1 ?c2 ?c3 ?c4 ?c5 ?_)
                case c1 =>
                  intro j u hj
                  match j, hj with
                  | 0, hj => simp at hj; subst hj; simp [Addr.add]
                case c2 =>
                  intro u hu
                  simp at hu
                  subst hu
                  rfl
                case c3 => unfold maxLen; omega
                case c4 => omega
                case c5 => simp; omega
                · intro vi2 w3 hown3 hgr3 hat3
                  obtain ⟨hG, hbk, hvi, hvm⟩ := HG.out
                  obtain ⟨k1, k2, k3⟩ := hG.item ((Below.refl _ wr).alloc (Nat.le_refl _) _) hBwr (by rw [HVM.out.2.2.1]; exact hown3) hgr3
                  have b3 : BookAt w3 kb N1 (.slice ai Ln ci) (.slice am Ln cm) := (hgr3.block kb (by have := (Array.getElem?_eq_some_iff.1 hbk).1; simp; omega) (fun e => kb_apart hbk hvi (by simp) e.symm)).trans ((Below.heap_alloc _ _ _ (Array.getElem?_eq_some_iff.1 hbk).1).trans hbk)
                  obtain ⟨g3, cap3, rfl⟩ := owns_shape hown3 (by omega)
                  have m1 : w3.cell? ⟨kb, 1, none⟩ = some (.slice ai Ln ci) := by rw [Lib.cell_of_heap b3]; rfl
                  have fm := Lib.frozen_of_heap b3
                  have HK : Hid _ := And.intro k1 (And.intro k2 k3)
                  clear hown3 hgr3 hat3 hG hbk hvi hvm k1 k2 k3 kb0 kb1 b3
                  go_upto_region 15 with fail
                  obtain ⟨Y1, hY1⟩ : ∃ Y1 : World, Y1 = w3.setCell ⟨kb, 1, none⟩ (.slice (some ⟨g3, 0, none⟩) (Ln + 1) cap3) := ⟨_, rfl⟩
                  rw [← hY1] at HK ⊢
                  clear hY1 m1 fm
                  obtain ⟨k1, k2, k3⟩ := HK.out
                  obtain ⟨b1, _, j1, j2⟩ := k1
                  rw [HVM.out.2.2.2] at j2
                  have sY := k3.size
                  have hkl2 : kb < Y1.heap.size := (Array.getElem?_eq_some_iff.1 b1).1
                  have n0 : Y1.cell? ⟨kb, 0, none⟩ = some (.int .i64 N1) := by rw [Lib.cell_of_heap b1]; rfl
                  have n5 : Y1.cell? ⟨kb, 5, none⟩ = some (.slice am Ln cm) := by rw [Lib.cell_of_heap b1]; rfl
                  have hown4 : ∀ o : Obj, (Y1.drew.alloc o).ownsRow B0 3 1 (.slice am Ln cm) Ln MS := fun o => own_below j2 (((Below.refl _ Y1).drew).alloc (Nat.le_refl _) o)
                  have Hown4 : Hid _ := hown4
                  have hkeep : ∀ (o : Obj) (w4 : World), (Y1.drew.alloc o).grownBy w4 (Value.ownBlock (.slice am Ln cm)) → BookAt w4 kb N1 (.slice (some ⟨g3, 0, none⟩) (Ln + 1) cap3) (.slice am Ln cm) := fun o w4 hg4 => (hg4.block kb (by simp; omega) (fun e => kb_apart b1 j2 (by simp) e.symm)).trans ((Below.heap_alloc _ _ _ hkl2).trans b1)
                  have hkeep2 : ∀ (o : Obj) (w4 : World), (Y1.drew.alloc o).grownBy w4 (Value.ownBlock (.slice am Ln cm)) → w4.cell? ⟨kb, 0, none⟩ = some (.int .i64 N1) ∧ w4.cell? ⟨kb, 5, none⟩ = some (.slice am Ln cm) := fun o w4 hg4 => ⟨by rw [Lib.cell_of_heap (hkeep o w4 hg4)]; rfl, by rw [Lib.cell_of_heap (hkeep o w4 hg4)]; rfl⟩
                  have Hkeep : Hid _ := hkeep
                  have Hkeep2 : Hid _ := hkeep2
                  have n5a : ∀ o : Obj, (Y1.drew.alloc o).cell? ⟨kb, 5, none⟩ = some (.slice am Ln cm) := fun o => (hkeep2 o _ (World.grownBy.refl _ _)).2
                  have hfz : ∀ (o : Obj) (w4 : World), (Y1.drew.alloc o).grownBy w4 (Value.ownBlock (.slice am Ln cm)) → w4.frozen? ⟨kb, 5, none⟩ = false := fun o w4 hg4 => Lib.frozen_of_heap (hkeep o w4 hg4) 5
                  have Hfz : Hid _ := hfz
                  clear hkeep hkeep2 hfz
                  have Hb1 : Hid _ := And.intro b1 (And.intro j1 j2)
                  clear k2 k3 b1 j1 j2 hown4
                  go_region_law ((refine step_append_lies _ (by rfl) (.tmp 60) (.tmp 65) 38 (by rfl) B0 3 iN _ 1 8 Tryd.underlying38 HiN.out.1 HiN.out.2.1 HiN.out.2.2.1 HiN.out.2.2.2 (by rfl) (by decide) _ Ln MS (by rfl) (Hown4.out _) ⟨Y1.heap.size, 0, none⟩ 1 1 [.int .i64 N1] (by rfl) (by rfl) (by intro j u hj; match j, hj with | 0, hj => (simp at hj; subst hj; simp [Addr.add])) (by intro u hu; simp at hu; subst hu; rfl) (by decide) (by unfold maxLen; omega) (by omega) (by simp; omega) (Y1.heap.size + 1) (by simp) ?_; intro g4 cap4 w4 hown5 hgr5 hat5 hlt5; have fz5 := Hfz.out _ _ hgr5; have n56 := (Hkeep2.out _ _ hgr5).2))
                  all_goals
                    obtain ⟨hG1, hK1, hBl1⟩ := HK.out
                    obtain ⟨k4, k5, k6⟩ := RowsG.mark hG1 (((Below.refl _ Y1).drew).alloc (Nat.le_refl _) _) (by omega) (by rw [HVM.out.2.2.2]; exact hown5) hgr5
                    obtain ⟨Y2, hY2⟩ : ∃ Y2 : World, Y2 = w4.setCell ⟨kb, 5, none⟩ (.slice (some ⟨g4, 0, none⟩) (Ln + 1) cap4) := ⟨_, rfl⟩
                    rw [← hY2] at k4 k5 k6 ⊢
                    obtain ⟨f3, f4, f5, f6, f7, f8, f9, f10, f13⟩ := HFF.out
                    have hK2 : Kp 0 0 wr Y2 := hK1.then0 k5
                    have hB2 : Below B0 wr Y2 := hBl1.trans k6
                    have s6 := k6.size
                    have hm2 := hK2 _ _ f13 (.inr (Nat.zero_le _)) (NB.item _ _)
                    rw [HMB.out] at hm2
                    have m0 : Y2.cell? ⟨w2.heap.size, 0, none⟩ = some (.bool false) := by rw [Lib.cell_of_heap hm2]; rfl
                    have m1 : Y2.cell? ⟨w2.heap.size, 1, none⟩ = some (.string MB) := by rw [Lib.cell_of_heap hm2]; rfl
                    have m2 : Y2.cell? ⟨w2.heap.size, 2, none⟩ = some (.slice none 0 0) := by rw [Lib.cell_of_heap hm2]; rfl
                    have hown6 : ∀ o : Obj, (Y2.alloc o).ownsRow lo 24 3 (.slice a5 (i.kids.length + r) cap5) (i.kids.length + r) ys5 := fun o => (own_keptT0 f4 (fun g cs hc => hK2 g _ hc (.inr (Nat.zero_le _)) (NB.item _ _))).alloc o
                    have Hown6 : Hid _ := hown6
                    have HK2 : Hid _ := And.intro k4 (And.intro hK2 hB2)
                    have hloY : lo ≤ Y2.heap.size := by have := f10.size; omega
                    clear hY2 hG1 hK1 hBl1 k4 k5 k6 f3 f4 f5 f6 f7 f8 f9 f10 f13 hown6 hm2 hown5 hgr5 hat5 hlt5 fz5 n56 n0 n5 n5a hK2 hB2
                    go_wp2_with (at_builtin; refine wpList_append_mine3 _ rfl (.tmp 70) (.tmp 72) 22 rfl lo 24 iT _ 3 48 Tryd.underlying22 HiT.out.1 HiT.out.2.1 HiT.out.2.2.1 HiT.out.2.2.2 rfl (by decide) _ (i.kids.length + r) ys5 rfl (Hown6.out _) ⟨Y2.heap.size, 0, none⟩ 1 1 [.bool false, .string MB, .slice none 0 0] rfl (by decide) rfl ?c1 ?c2 ?c3 ?c4 ?c5 ?_)
                    case c1 =>
                      intro j u hj
                      match j, hj with
                      | 0, hj => simp at hj; subst hj; simp [Addr.add]
                      | 1, hj => simp at hj; subst hj; simp [Addr.add]
                      | 2, hj => simp at hj; subst hj; simp [Addr.add]
                    case c2 =>
                      intro u hu
                      simp at hu
                      rcases hu with rfl | rfl | rfl <;> rfl
                    case c3 => unfold maxLen; omega
                    case c4 => omega
                    case c5 => simp; omega
                    · intro lv2 z hown7 hgr7 hat7
                      obtain ⟨f3, f4, f5, f6, f7, f8, f9, f10, f13⟩ := HFF.out
                      obtain ⟨k4, k5, k6⟩ := HK2.out
                      obtain ⟨e0, hfour⟩ := Four.round hB0 hlo2 (by omega) f1 f3 f4 f5 f6 f7 f8 f9 f10 f11 f12 f13 (by rw [HVM.out.1, HVM.out.2.1]; exact k4) k5 k6 ((Below.refl _ Y2).alloc (Nat.le_refl _) _) (by rw [HMB.out]; exact hown7) hgr7 (by simpa only [World.size_alloc] using hat7)
                      obtain ⟨g7, cap7, rfl⟩ := owns_shape hown7 (by omega)
                      have HFour : Hid _ := hfour
                      clear hown7 hgr7 hat7 hfour f3 f4 f5 f6 f7 f8 f9 f10 f13 k4 k5 k6 m0 m1 m2
                      go_wp2_with fail
                      go_roundg (4 - (r + 1))
                      case measure => omega
                      case rel => exact ⟨r + 1, es2 ++ [e0], some ⟨g7, 0, none⟩, cap7, by omega, by go_num, by rw [← Nat.add_assoc], rfl, HFour.out⟩
              · obtain rfl : r = 4 := by omega
                have hlt' : ¬ ((4 : Nat) : Int) < 4 := by omega
                obtain ⟨hG, hbk, hvi, hvm⟩ := HG.out
                obtain ⟨f3, f4, f5, f6, f7, f8, f9, f10, f13⟩ := HFF.out
                obtain ⟨h4, h5, h6, h9⟩ := H4.out
                have fzk := Lib.frozen_of_heap hbk
                have hfin : Hid (∃ N' es', N' ≤ N + Im.wt (n + 1) i ∧ es'.length ≤ 4 * Im.wt (n + 1) i ∧ Book (wr.setCell ⟨kb, 0, none⟩ (.int .i64 ((N1 + 1 : Nat) : Int))) kb B0 N' (es ++ es') ∧ Ins lo hi W.heap.size es' ∧ Kp lo hi W (wr.setCell ⟨kb, 0, none⟩ (.int .i64 ((N1 + 1 : Nat) : Int))) ∧ Below B0 W (wr.setCell ⟨kb, 0, none⟩ (.int .i64 ((N1 + 1 : Nat) : Int)))) := by
                  refine ⟨N1 + 1, es1 ++ es2, by omega, by rw [List.length_append, f1]; omega, ⟨_, _, ⟨hbk.set0 (N1 + 1), hkb, ?_, ?_⟩, ?_⟩, ?_, f9.step (grown_set _ _ _) (fun r hr => by cases hr; exact .inr (.inr (kb_not hbk))), f10.setCell hkb _⟩
                  · rw [← List.append_assoc, hLn, HVM.out.1]
                    exact ownsRow_kept hvi (fun g hg => Below.heap_setCell _ _ _ _ (fun e => kb_apart hbk hvi (by simp) (by rw [hg]; exact congrArg some e)))
                  · rw [← List.append_assoc, hLn, HVM.out.2.1]
                    exact ownsRow_kept hvm (fun g hg => Below.heap_setCell _ _ _ _ (fun e => kb_apart hbk hvm (by simp) (by rw [hg]; exact congrArg some e)))
                  · intro e he
                    rw [← List.append_assoc] at he
                    refine (f3 e he).kept (f3 e he).lt (fun g cur _ hc => (Below.heap_setCell _ _ _ _ (fun e => ?_)).trans hc)
                    simp only at e
                    subst e
                    have := hbk.symm.trans hc
                    simp at this
                  · intro e he
                    rcases List.mem_append.1 he with he | he
                    · intro hl0 a ha
                      rcases h4 e he hl0 a ha with ⟨b1, b2, _⟩ | b
                      · exact .inl ⟨b1, b2⟩
                      · exact .inr b
                    · exact f8 e he
                rw [show ((N1 + 1 : Nat) : Int) = (N1 : Int) + 1 from by omega] at hfin
                clear hG hbk hvi hvm f3 f4 f5 f6 f7 f8 f9 f10 f13 h4 h5 h6 h9 kb1
                go_wp2_with fail
                go_end0
                obtain ⟨N', es', p1, p2, p3, p4, p5, p6⟩ := hfin.out
                exact ⟨rfl, N', p1, es', p2, p3, p4, p5, p6⟩
end Go.Proofs.YtpibpdpedjinhaaDoor
