/- For all texts of 1048576 bytes at most together, with the table of heads as the program's text lays it, tributarylaw.Decodes returns true: Decode gives the document's item, or its error, and what came out is its owner's. -/
import Derived.Test.YtpibpdpedjinhaaDoorWStill
import Derived.Test.YtpibpdpedjinhaaDoorWRefDecode
namespace Go.Proofs.YtpibpdpedjinhaaDoor
open Go.RowKit Go.Joins

theorem In.up {B : Nat} {w : World} : ∀ (n : Nat) (c0 c1 c2 : Value) (i : Im.It), In B w n c0 c1 c2 i → In B w (n + 1) c0 c1 c2 i
  | 0, _, _, _, _, h => by cases h
  | n + 1, c0, c1, c2, i, h => by
    obtain ⟨h0, h1, a, cap, h2, h3⟩ := h
    refine ⟨h0, h1, a, cap, h2, fun hne => ?_⟩
    obtain ⟨b, off, hb, hlt, hj⟩ := h3 hne
    refine ⟨b, off, hb, hlt, fun j hjl => ?_⟩
    obtain ⟨d0, d1, d2, hk, hin⟩ := hj j hjl
    exact ⟨d0, d1, d2, hk, In.up n _ _ _ _ hin⟩
/-- the item that came out, or an empty one; and the error -/
def Im.itm (R : Option Im.It) : Im.It := R.getD ⟨false, [], []⟩
def errOf (R : Option Im.It) : Int := if R.isSome then 0 else 4
theorem Decoded.uni {n lo : Nat} {w' : World} {e : Ending} {R : Option Im.It} (h : Decoded (n + 1) lo w' e R) :
    ∃ a cap, e = .returned (.tuple #[.agg #[.bool (Im.itm R).list, .string ⟨(Im.itm R).bytes.toArray⟩, .slice a (Im.itm R).kids.length cap], .int .i64 (errOf R)]) ∧ Tr w' (n + 1) lo w'.heap.size (.bool (Im.itm R).list) (.string ⟨(Im.itm R).bytes.toArray⟩) (.slice a (Im.itm R).kids.length cap) (Im.itm R) := by
  cases R with
  | none => exact ⟨none, 0, h, Tr.of_row (i := ⟨false, [], []⟩) (Row.none _ _ _ _)⟩
  | some i => exact h
theorem itm_wt (s : ByteArray) (hs : s.size ≤ 1048576) : Im.dp 9 (Im.itm (Im.dec s.data.toList)) ∧ Im.wt 9 (Im.itm (Im.dec s.data.toList)) ≤ 2097152 ∧ Im.wt 10 (Im.itm (Im.dec s.data.toList)) ≤ 2097152 := by
  have key : ∀ R, (R = none ∨ ∃ i n, R = some i ∧ Im.read Im.body 8 s.data.toList = some (i, n)) → Im.dp 9 (Im.itm R) ∧ Im.wt 9 (Im.itm R) ≤ 2097152 ∧ Im.wt 10 (Im.itm R) ≤ 2097152 := by
    rintro R (rfl | ⟨i, n, rfl, hr⟩)
    · refine ⟨fun k hk => by simp [Im.itm] at hk, ?_, ?_⟩ <;> simp [Im.itm, Im.wt]
    · have h1 : Im.dp 9 i ∧ Im.wt 9 i ≤ 2 * n := Im.read_wt Im.body_body 8 _ _ _ hr
      have h2 := Im.read_fair Im.body_body 8 _ _ _ hr
      rw [← Lib.size_eq] at h2
      have h3 : Im.wt 10 i = Im.wt 9 i := Im.wt_up 9 i h1.1
      have e : Im.itm (some i) = i := rfl
      rw [e]
      exact ⟨h1.1, by omega, by omega⟩
  apply key
  unfold Im.dec
  cases hr : Im.read Im.body 8 s.data.toList with
  | none => exact .inl rfl
  | some x =>
    obtain ⟨i, n⟩ := x
    simp only
    split
    · exact .inr ⟨i, n, rfl, rfl⟩
    · exact .inl rfl
theorem Book.new (w : World) (B0 : Nat) (hB : B0 ≤ w.heap.size) : Book (w.alloc (.cells #[.int .i64 0, .slice none 0 0, .slice none 0 0, .slice none 0 0, .slice none 0 0, .slice none 0 0, .slice none 0 0, .slice none 0 0, .slice none 0 0] 41)) w.heap.size B0 0 [] :=
  ⟨.slice none 0 0, .slice none 0 0, ⟨heap_alloc_new _ _, hB, World.ownsRow_nil _ _ _ _, World.ownsRow_nil _ _ _ _⟩, fun e he => by simp at he⟩
theorem Book.below {W W' : World} {kb B0 N : Nat} {es : List E} (h : Book W kb B0 N es) (hb : Below W.heap.size W W') : Book W' kb B0 N es := by
  obtain ⟨vi, vm, h1, h2⟩ := h
  exact ⟨vi, vm, Book.kept h1 (fun k cs t _ hc => (hb.block k (Array.getElem?_eq_some_iff.1 hc).1).trans hc), fun e he => (h2 e he).kept (h2 e he).lt (fun g cur hg hc => (hb.block g hg).trans hc)⟩
theorem Tr.kp {W W' : World} {lo hi l h n : Nat} {c0 c1 c2 : Value} {i : Im.It} (ht : Tr W n l h c0 c1 c2 i) (hk : Kp lo hi W W') (hd : h ≤ lo ∨ hi ≤ l) : Tr W' n l h c0 c1 c2 i :=
  Tr.keptT n _ _ _ _ _ _ (fun k cs k1 k2 hc => hk k _ hc (by omega) (NB.item _ _)) ht
theorem Tr.bel {W W' : World} {l h n : Nat} {c0 c1 c2 : Value} {i : Im.It} (ht : Tr W n l h c0 c1 c2 i) (hb : Below W.heap.size W W') (hh : h ≤ W.heap.size) : Tr W' n l h c0 c1 c2 i :=
  Tr.kept n _ _ _ _ _ _ (fun k _ k2 => hb.block k (by omega)) ht

theorem cells3 {W : World} {b : Nat} {x y z : Value} {t : TypeId} (h : W.heap[b]? = some (.cells #[x, y, z] t (0, 0))) : W.cell? ⟨b, 0, none⟩ = some x ∧ W.cell? ⟨b, 1, none⟩ = some y ∧ W.cell? ⟨b, 2, none⟩ = some z :=
  ⟨by rw [Lib.cell_of_heap h]; rfl, by rw [Lib.cell_of_heap h]; rfl, by rw [Lib.cell_of_heap h]; rfl⟩

set_option maxRecDepth 100000 in
set_option maxHeartbeats 4000000 in
theorem decodes_walk (s t : ByteArray) (w : World) (hs : s.size ≤ 1048576) (ht : t.size ≤ 1048576) (hH : Heads w) :
    Calls Tryd.prog 4 #[.string s, .string t] w fun e w' => e = .returned (.bool true) ∧ Below w.heap.size w w' := by
  have h0 := hH.pos
  obtain ⟨sd1, sd2, sd3⟩ := itm_wt s hs
  obtain ⟨td1, td2, td3⟩ := itm_wt t ht
  have hD1 := fun (W : World) (h : Heads W) => decode_any s W (by omega) h
  have hD2 := fun (W : World) => rdecode_any s W hs
  have hD3 := fun (W : World) (h : Heads W) => decode_any t W (by omega) h
  have hD4 := fun (W : World) => rdecode_any t W ht
  generalize Im.dec s.data.toList = RS at *
  generalize Im.dec t.data.toList = RT at *
  obtain ⟨I, hI⟩ : ∃ I, Im.itm RS = I := ⟨_, rfl⟩
  obtain ⟨J, hJ⟩ : ∃ J, Im.itm RT = J := ⟨_, rfl⟩
  obtain ⟨eS, heS⟩ : ∃ eS, errOf RS = eS := ⟨_, rfl⟩
  obtain ⟨eT, heT⟩ : ∃ eT, errOf RT = eT := ⟨_, rfl⟩
  rw [hI] at sd1 sd2 sd3
  rw [hJ] at td1 td2 td3
  obtain ⟨IB, hIB⟩ : ∃ IB : ByteArray, (⟨I.bytes.toArray⟩ : ByteArray) = IB := ⟨_, rfl⟩
  obtain ⟨JB, hJB⟩ : ∃ JB : ByteArray, (⟨J.bytes.toArray⟩ : ByteArray) = JB := ⟨_, rfl⟩
  -- the four calls, in one shape
  have cS : ∀ (W : World), Heads W → Calls Tryd.prog 11 #[.string s] W fun e w' => ∃ a cap, e = .returned (.tuple #[.agg #[.bool I.list, .string IB, .slice a I.kids.length cap], .int .i64 eS]) ∧ Hid (Tr w' 9 W.heap.size w'.heap.size (.bool I.list) (.string IB) (.slice a I.kids.length cap) I) ∧ Below W.heap.size W w' := fun W h => (hD1 W h).mono (by rintro e w' ⟨h1, h2⟩; obtain ⟨a, cap, h3, h4⟩ := Decoded.uni h1; rw [hI, heS, hIB] at h3; rw [hI, hIB] at h4; exact ⟨a, cap, h3, h4, h2⟩)
  have rS : ∀ (W : World), Calls Tryd.prog 12 #[.string s] W fun e w' => ∃ a cap, e = .returned (.tuple #[.agg #[.bool I.list, .string IB, .slice a I.kids.length cap], .int .i64 eS]) ∧ Hid (Tr w' 10 W.heap.size w'.heap.size (.bool I.list) (.string IB) (.slice a I.kids.length cap) I) ∧ Below W.heap.size W w' := fun W => (hD2 W).mono (by rintro e w' ⟨h1, h2⟩; obtain ⟨a, cap, h3, h4⟩ := Decoded.uni h1; rw [hI, heS, hIB] at h3; rw [hI, hIB] at h4; exact ⟨a, cap, h3, h4, h2⟩)
  have cT : ∀ (W : World), Heads W → Calls Tryd.prog 11 #[.string t] W fun e w' => ∃ a cap, e = .returned (.tuple #[.agg #[.bool J.list, .string JB, .slice a J.kids.length cap], .int .i64 eT]) ∧ Hid (Tr w' 9 W.heap.size w'.heap.size (.bool J.list) (.string JB) (.slice a J.kids.length cap) J) ∧ Below W.heap.size W w' := fun W h => (hD3 W h).mono (by rintro e w' ⟨h1, h2⟩; obtain ⟨a, cap, h3, h4⟩ := Decoded.uni h1; rw [hJ, heT, hJB] at h3; rw [hJ, hJB] at h4; exact ⟨a, cap, h3, h4, h2⟩)
  have rT : ∀ (W : World), Calls Tryd.prog 12 #[.string t] W fun e w' => ∃ a cap, e = .returned (.tuple #[.agg #[.bool J.list, .string JB, .slice a J.kids.length cap], .int .i64 eT]) ∧ Hid (Tr w' 10 W.heap.size w'.heap.size (.bool J.list) (.string JB) (.slice a J.kids.length cap) J) ∧ Below W.heap.size W w' := fun W => (hD4 W).mono (by rintro e w' ⟨h1, h2⟩; obtain ⟨a, cap, h3, h4⟩ := Decoded.uni h1; rw [hJ, heT, hJB] at h3; rw [hJ, hJB] at h4; exact ⟨a, cap, h3, h4, h2⟩)
  have CS : Hid _ := cS
  have RSs : Hid _ := rS
  have CT : Hid _ := cT
  have RTt : Hid _ := rT
  have HH : Hid (Heads w) := hH
  have HB : Hid _ := And.intro sd1 (And.intro td1 (And.intro hIB hJB))
  clear hD1 hD2 hD3 hD4 hI hJ heS heT cS rS cT rT sd1 td1 hIB hJB hH
  go_enter Tryd.func4, Tryd.ntmps4
  go_wp2_with fail
  refine (CS.out w HH.out).mono ?_
  rintro e w1 ⟨a1, cap1, rfl, T1, b1⟩
  have s1 := b1.size
  go_wp2_with fail
  obtain ⟨u1, hu1⟩ : ∃ u1 : World, u1 = w1.alloc (.cells #[.bool I.list, .string IB, .slice a1 I.kids.length cap1] 24) := ⟨_, rfl⟩
  have q1 : u1.heap.size = w1.heap.size + 1 := by rw [hu1]; simp
  have c1 : Below w1.heap.size w1 u1 := by rw [hu1]; exact (Below.refl _ _).alloc (Nat.le_refl _) _
  have A1 : u1.heap[w1.heap.size]? = some (.cells #[.bool I.list, .string IB, .slice a1 I.kids.length cap1] 24 (0, 0)) := by rw [hu1]; exact heap_alloc_new _ _
  rw [← hu1]
  clear hu1
  refine (RSs.out u1).mono ?_
  rintro e w2 ⟨a2, cap2, rfl, T2, b2⟩
  have s2 := b2.size
  have A2 := (b2.block w1.heap.size (by omega)).trans A1
  obtain ⟨u2, hu2⟩ : ∃ u2 : World, u2 = w2.alloc (.cells #[.bool I.list, .string IB, .slice a2 I.kids.length cap2] 24) := ⟨_, rfl⟩
  have q2 : u2.heap.size = w2.heap.size + 1 := by rw [hu2]; simp
  have c2 : Below w2.heap.size w2 u2 := by rw [hu2]; exact (Below.refl _ _).alloc (Nat.le_refl _) _
  have B2 : u2.heap[w2.heap.size]? = some (.cells #[.bool I.list, .string IB, .slice a2 I.kids.length cap2] 24 (0, 0)) := by rw [hu2]; exact heap_alloc_new _ _
  have A3 := (c2.block w1.heap.size (by omega)).trans A2
  have d2 : Below w1.heap.size w1 u2 := (c1.trans (b2.mono (by omega))).trans (c2.mono (by omega))
  have TA : Hid (Tr u2 9 w.heap.size w1.heap.size (.bool I.list) (.string IB) (.slice a1 I.kids.length cap1) I) := Tr.bel T1.out d2 (Nat.le_refl _)
  have TB : Hid (Tr u2 10 u1.heap.size w2.heap.size (.bool I.list) (.string IB) (.slice a2 I.kids.length cap2) I) := Tr.bel T2.out c2 (Nat.le_refl _)
  obtain ⟨x0, x1, x2⟩ := cells3 A3
  obtain ⟨y0, y1, y2⟩ := cells3 B2
  have HA : Hid _ := A3
  have HBb : Hid _ := B2
  clear A1 A2 A3 B2 T1 T2
  go_upto_region 3 with fail
  rw [← hu2]
  clear hu2
  go_wp2_with fail
  refine (same_any 10 u2.heap.size I _ _ _ _ _ _ u2 (Nat.le_refl _) sd3 (In.up 9 _ _ _ _ (Tr.inn 9 _ _ _ _ _ _ (by omega) TA.out)) (Tr.inn 10 _ _ _ _ _ _ (by omega) TB.out)).mono ?_
  rintro e w3 ⟨rfl, b3⟩
  have s3 := b3.size
  have A3 := (b3.block w1.heap.size (by omega)).trans HA.out
  have B3 := (b3.block w2.heap.size (by omega)).trans HBb.out
  have TA3 : Hid (Tr w3 9 w.heap.size w1.heap.size (.bool I.list) (.string IB) (.slice a1 I.kids.length cap1) I) := Tr.bel TA.out b3 (by omega)
  have TB3 : Hid (Tr w3 10 u1.heap.size w2.heap.size (.bool I.list) (.string IB) (.slice a2 I.kids.length cap2) I) := Tr.bel TB.out b3 (by omega)
  have bw3 : Below w.heap.size w w3 := (b1.trans (d2.mono (by omega))).trans (b3.mono (by omega))
  clear x0 x1 x2 y0 y1 y2 HA HBb TA TB b1 b2 c1 c2 d2 b3
  go_wp2_with fail
  refine (CT.out w3 (HH.out.below bw3 h0)).mono ?_
  rintro e w4 ⟨a4, cap4, rfl, T4, b4⟩
  have s4 := b4.size
  go_wp2_with fail
  obtain ⟨u4, hu4⟩ : ∃ u4 : World, u4 = w4.alloc (.cells #[.bool J.list, .string JB, .slice a4 J.kids.length cap4] 24) := ⟨_, rfl⟩
  have q4 : u4.heap.size = w4.heap.size + 1 := by rw [hu4]; simp
  have c4 : Below w4.heap.size w4 u4 := by rw [hu4]; exact (Below.refl _ _).alloc (Nat.le_refl _) _
  have C4 : u4.heap[w4.heap.size]? = some (.cells #[.bool J.list, .string JB, .slice a4 J.kids.length cap4] 24 (0, 0)) := by rw [hu4]; exact heap_alloc_new _ _
  rw [← hu4]
  clear hu4
  refine (RTt.out u4).mono ?_
  rintro e w5 ⟨a5, cap5, rfl, T5, b5⟩
  have s5 := b5.size
  obtain ⟨u5, hu5⟩ : ∃ u5 : World, u5 = w5.alloc (.cells #[.bool J.list, .string JB, .slice a5 J.kids.length cap5] 24) := ⟨_, rfl⟩
  have q5 : u5.heap.size = w5.heap.size + 1 := by rw [hu5]; simp
  have c5 : Below w5.heap.size w5 u5 := by rw [hu5]; exact (Below.refl _ _).alloc (Nat.le_refl _) _
  have D5 : u5.heap[w5.heap.size]? = some (.cells #[.bool J.list, .string JB, .slice a5 J.kids.length cap5] 24 (0, 0)) := by rw [hu5]; exact heap_alloc_new _ _
  obtain ⟨u6, hu6⟩ : ∃ u6 : World, u6 = u5.alloc (.cells #[.int .i64 0, .slice none 0 0, .slice none 0 0, .slice none 0 0, .slice none 0 0, .slice none 0 0, .slice none 0 0, .slice none 0 0, .slice none 0 0] 41) := ⟨_, rfl⟩
  have q6 : u6.heap.size = u5.heap.size + 1 := by rw [hu6]; simp
  have c6 : Below u5.heap.size u5 u6 := by rw [hu6]; exact (Below.refl _ _).alloc (Nat.le_refl _) _
  have hbk6 : Book u6 u5.heap.size w.heap.size 0 [] := by rw [hu6]; exact Book.new u5 w.heap.size (by have := bw3.size; omega)
  have sw3 := bw3.size
  have d46 : Below w4.heap.size w4 u6 := ((c4.trans (b5.mono (by omega))).trans (c5.mono (by omega))).trans (c6.mono (by omega))
  have d36 : Below w3.heap.size w3 u6 := b4.trans (d46.mono (by omega))
  have d56 : Below w5.heap.size w5 u6 := c5.trans (c6.mono (by omega))
  have A6 := (d36.block w1.heap.size (by omega)).trans A3
  have B6 := (d36.block w2.heap.size (by omega)).trans B3
  have C6 := ((((b5.trans (c5.mono (by omega))).trans (c6.mono (by omega))).block w4.heap.size (by omega))).trans C4
  have D6 := (c6.block w5.heap.size (by omega)).trans D5
  have TA6 : Hid (Tr u6 9 w.heap.size w1.heap.size (.bool I.list) (.string IB) (.slice a1 I.kids.length cap1) I) := Tr.bel TA3.out d36 (by omega)
  have TB6 : Hid (Tr u6 10 u1.heap.size w2.heap.size (.bool I.list) (.string IB) (.slice a2 I.kids.length cap2) I) := Tr.bel TB3.out d36 (by omega)
  have TC6 : Hid (Tr u6 9 w3.heap.size w4.heap.size (.bool J.list) (.string JB) (.slice a4 J.kids.length cap4) J) := Tr.bel T4.out d46 (Nat.le_refl _)
  have TD6 : Hid (Tr u6 10 u4.heap.size w5.heap.size (.bool J.list) (.string JB) (.slice a5 J.kids.length cap5) J) := Tr.bel T5.out d56 (Nat.le_refl _)
  have bw6 : Below w.heap.size w u6 := bw3.trans (d36.mono (by omega))
  obtain ⟨x0, x1, x2⟩ := cells3 A6
  have H6 : Hid _ := And.intro A6 (And.intro B6 (And.intro C6 D6))
  have HBk6 : Hid _ := hbk6
  clear A3 B3 C4 D5 A6 B6 C6 D6 TA3 TB3 T4 T5 b4 b5 c4 c5 c6 d46 d36 d56 hbk6 bw3
  go_upto_region 7 with fail
  rw [← hu5, ← hu6]
  clear hu5 hu6
  go_wp2_with fail
  rw [q5] at HBk6
  refine (bitem_any 9 I _ _ _ w.heap.size w1.heap.size u6 (w5.heap.size + 1) w.heap.size 0 [] TA6.out s1 (by omega) (Nat.le_refl _) sd2 (by omega) (by simp; omega) HBk6.out (fun e he => by simp at he)).mono ?_
  rintro e w7 ⟨rfl, N1, es1, n1, l1, k1, i1, p1, v1⟩
  obtain ⟨A6, B6, C6, D6⟩ := H6.out
  have s7 := v1.size
  rw [List.nil_append] at k1
  have B7 := p1 _ _ B6 (.inr (by omega)) (NB.item _ _)
  have C7 := p1 _ _ C6 (.inr (by omega)) (NB.item _ _)
  have D7 := p1 _ _ D6 (.inr (by omega)) (NB.item _ _)
  have TB7 : Hid (Tr w7 10 u1.heap.size w2.heap.size (.bool I.list) (.string IB) (.slice a2 I.kids.length cap2) I) := Tr.kp TB6.out p1 (.inr (by omega))
  have TC7 : Hid (Tr w7 9 w3.heap.size w4.heap.size (.bool J.list) (.string JB) (.slice a4 J.kids.length cap4) J) := Tr.kp TC6.out p1 (.inr (by omega))
  have TD7 : Hid (Tr w7 10 u4.heap.size w5.heap.size (.bool J.list) (.string JB) (.slice a5 J.kids.length cap5) J) := Tr.kp TD6.out p1 (.inr (by omega))
  have bw7 : Below w.heap.size w w7 := bw6.trans v1
  obtain ⟨y0, y1, y2⟩ := cells3 C7
  obtain ⟨z0, z1, z2⟩ := cells3 D7
  have H7 : Hid _ := And.intro B7 C7
  have HBk7 : Hid _ := k1
  have HI1 : Hid _ := i1
  clear A6 B6 C6 D6 B7 C7 D7 k1 i1 p1 v1 x0 x1 x2 TA6 TB6 TC6 TD6 bw6 HBk6 H6
  go_wp2_with fail
  refine (same_any 10 w7.heap.size J _ _ _ _ _ _ w7 (Nat.le_refl _) td3 (In.up 9 _ _ _ _ (Tr.inn 9 _ _ _ _ _ _ (by omega) TC7.out)) (Tr.inn 10 _ _ _ _ _ _ (by omega) TD7.out)).mono ?_
  rintro e w8 ⟨rfl, b8⟩
  have s8 := b8.size
  have B8 := (b8.block w2.heap.size (by omega)).trans H7.out.1
  have C8 := (b8.block w4.heap.size (by omega)).trans H7.out.2
  have TB8 : Hid (Tr w8 10 u1.heap.size w2.heap.size (.bool I.list) (.string IB) (.slice a2 I.kids.length cap2) I) := Tr.bel TB7.out b8 (by omega)
  have TC8 : Hid (Tr w8 9 w3.heap.size w4.heap.size (.bool J.list) (.string JB) (.slice a4 J.kids.length cap4) J) := Tr.bel TC7.out b8 (by omega)
  have bw8 : Below w.heap.size w w8 := bw7.trans (b8.mono bw7.size)
  have HBk8 : Hid (Book w8 (w5.heap.size + 1) w.heap.size N1 es1) := Book.below HBk7.out b8
  obtain ⟨x0, x1, x2⟩ := cells3 C8
  have H8 : Hid _ := B8
  clear B8 C8 y0 y1 y2 z0 z1 z2 TB7 TC7 TD7 bw7 HBk7 H7 b8
  go_wp2_with fail
  refine (bitem_any 9 J _ _ _ w3.heap.size w4.heap.size w8 (w5.heap.size + 1) w.heap.size N1 es1 TC8.out s4 (by omega) (by omega) td2 (by omega) (by omega) HBk8.out ?_).mono ?_
  · intro e he hl0 a ha
    have : (w.heap.size ≤ a.block ∧ a.block < w1.heap.size) ∨ u6.heap.size ≤ a.block := HI1.out e he hl0 a ha
    show a.block < w3.heap.size ∨ w4.heap.size ≤ a.block
    omega
  rintro e w9 ⟨rfl, N2, es2, n2, l2, k2, _, p2, v2⟩
  have s9 := v2.size
  have B9 := p2 _ _ H8.out (.inl (by omega)) (NB.item _ _)
  have TB9 : Hid (Tr w9 10 u1.heap.size w2.heap.size (.bool I.list) (.string IB) (.slice a2 I.kids.length cap2) I) := Tr.kp TB8.out p2 (.inl (by omega))
  have bw9 : Below w.heap.size w w9 := bw8.trans v2
  have HBk9 : Hid _ := k2
  have H9 : Hid _ := B9
  clear B9 k2 p2 v2 x0 x1 x2 TB8 TC8 bw8 HBk8 H8
  go_wp2_with fail
  refine (CS.out w9 (HH.out.below bw9 h0)).mono ?_
  rintro e w10 ⟨a10, cap10, rfl, T10, b10⟩
  have s10 := b10.size
  obtain ⟨u10, hu10⟩ : ∃ u10 : World, u10 = w10.alloc (.cells #[.bool I.list, .string IB, .slice a10 I.kids.length cap10] 24) := ⟨_, rfl⟩
  have q10 : u10.heap.size = w10.heap.size + 1 := by rw [hu10]; simp
  have c10 : Below w10.heap.size w10 u10 := by rw [hu10]; exact (Below.refl _ _).alloc (Nat.le_refl _) _
  have X10 : u10.heap[w10.heap.size]? = some (.cells #[.bool I.list, .string IB, .slice a10 I.kids.length cap10] 24 (0, 0)) := by rw [hu10]; exact heap_alloc_new _ _
  have d910 : Below w9.heap.size w9 u10 := b10.trans (c10.mono (by omega))
  have B10 := (d910.block w2.heap.size (by omega)).trans H9.out
  have TX10 : Hid (Tr u10 9 w9.heap.size w10.heap.size (.bool I.list) (.string IB) (.slice a10 I.kids.length cap10) I) := Tr.bel T10.out c10 (Nat.le_refl _)
  have TB10 : Hid (Tr u10 10 u1.heap.size w2.heap.size (.bool I.list) (.string IB) (.slice a2 I.kids.length cap2) I) := Tr.bel TB9.out d910 (by omega)
  have bw10 : Below w.heap.size w u10 := bw9.trans (d910.mono bw9.size)
  have hat9 : ∀ e, e ∈ es1 ++ es2 → e.At (fun g => g < w9.heap.size) := by
    obtain ⟨vi, vm, _, hrd⟩ := HBk9.out
    exact fun e he => (hrd e he).lt
  have HBk10 : Hid (Book u10 (w5.heap.size + 1) w.heap.size N2 (es1 ++ es2)) := Book.below HBk9.out d910
  obtain ⟨x0, x1, x2⟩ := cells3 X10
  obtain ⟨y0, y1, y2⟩ := cells3 B10
  have H10 : Hid _ := X10
  have Hat9 : Hid _ := hat9
  clear X10 B10 T10 TB9 b10 c10 d910 bw9 HBk9 hat9
  go_upto_region 11 with fail
  rw [← hu10]
  clear hu10
  go_wp2_with fail
  refine (same_any 10 u10.heap.size I _ _ _ _ _ _ u10 (Nat.le_refl _) sd3 (In.up 9 _ _ _ _ (Tr.inn 9 _ _ _ _ _ _ (by omega) TX10.out)) (Tr.inn 10 _ _ _ _ _ _ (by omega) TB10.out)).mono ?_
  rintro e w11 ⟨rfl, b11⟩
  have s11 := b11.size
  have X11 := (b11.block w10.heap.size (by omega)).trans H10.out
  have TX11 : Hid (Tr w11 9 w9.heap.size w10.heap.size (.bool I.list) (.string IB) (.slice a10 I.kids.length cap10) I) := Tr.bel TX10.out b11 (by omega)
  have bw11 : Below w.heap.size w w11 := bw10.trans (b11.mono bw10.size)
  have HBk11 : Hid (Book w11 (w5.heap.size + 1) w.heap.size N2 (es1 ++ es2)) := Book.below HBk10.out b11
  have hl12 : (es1 ++ es2).length ≤ 16777216 := by rw [List.length_append]; omega
  have Hl12 : Hid _ := hl12
  clear x0 x1 x2 y0 y1 y2 hl12
  obtain ⟨x0, x1, x2⟩ := cells3 X11
  clear X11 TX10 TB10 b11 bw10 HBk10
  go_wp2_with fail
  refine (bitem_any 9 I _ _ _ w9.heap.size w10.heap.size w11 (w5.heap.size + 1) w.heap.size N2 (es1 ++ es2) TX11.out s10 (by omega) (by omega) sd2 (by omega) (by have := Hl12.out; omega) HBk11.out ?_).mono ?_
  · intro e he hl0 a ha
    have : a.block < w9.heap.size := Hat9.out e he hl0 a ha
    exact .inl this
  rintro e w12 ⟨rfl, N3, es3, n3, l3, k3, _, p3, v3⟩
  have bw12 : Below w.heap.size w w12 := bw11.trans v3
  have HBk12 : Hid _ := k3
  have hl13 : (es1 ++ es2 ++ es3).length ≤ 134217728 := by rw [List.length_append]; have := Hl12.out; omega
  have Hl13 : Hid _ := hl13
  clear k3 p3 v3 x0 x1 x2 hl13
  go_wp2_with fail
  refine (still_any w12 (w5.heap.size + 1) w.heap.size N3 _ HBk12.out Hl13.out).mono ?_
  rintro e w13 ⟨rfl, b13⟩
  have bw13 : Below w.heap.size w w13 := bw12.trans (b13.mono bw12.size)
  go_wp2_with fail
  go_ret
  exact ⟨by simp, bw13⟩
end Go.Proofs.YtpibpdpedjinhaaDoor
