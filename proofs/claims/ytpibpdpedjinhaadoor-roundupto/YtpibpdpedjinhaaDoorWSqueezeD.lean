/- The walks of code.withByte, plansOf, writePiece and Squeeze: what they make are Sq.plan and Sq.enc, for strings of at most 2^20 bytes. -/
import Derived.Test.YtpibpdpedjinhaaDoorWLeastD
namespace Go.Proofs.YtpibpdpedjinhaaDoor
open Go.RowKit Go.Joins

/-- a plan as a value -/
def pv (p : Sq.Plan) : Value := .agg #[.int .i64 p.cost, .bool p.run, .int .i64 p.size]

set_option maxRecDepth 100000 in
set_option maxHeartbeats 1000000 in
theorem withByte_any (p : Sq.Plan) (w : World) (h1 : p.cost ≤ 4194304) (h2 : p.size ≤ 128) :
    Calls Tryd.prog 34 #[.agg #[.int .i64 p.cost, .bool p.run, .int .i64 p.size]] w fun e w' => e = .returned (.agg #[.int .i64 (Sq.withByte p).cost, .bool (Sq.withByte p).run, .int .i64 (Sq.withByte p).size]) ∧ Below w.heap.size w w' := by
  obtain ⟨c, r, z⟩ := p
  simp only at h1 h2 ⊢
  have hb2 : ∀ (a b : Obj), Below w.heap.size w ((w.alloc a).alloc b) := fun a b => ((Below.refl _ w).alloc (Nat.le_refl _) _).alloc (by simp) _
  have Hb2 : Hid _ := hb2
  clear hb2
  cases r with
  | true =>
    go_enter Tryd.func34, Tryd.ntmps34
    go_wp2_with fail
    exact bodyPost_ret (v := .agg #[.int .i64 ((c : Int) + 2), .bool false, .int .i64 1]) (by simp [results, Tryd.results34, go_sem]) rfl ⟨by simp [Sq.withByte], Hb2.out _ _⟩
  | false =>
    by_cases hz : z = 0 ∨ z = 128
    · rcases hz with rfl | rfl
      all_goals
        go_enter Tryd.func34, Tryd.ntmps34
        go_wp2_with fail
        exact bodyPost_ret (v := .agg #[.int .i64 ((c : Int) + 2), .bool false, .int .i64 1]) (by simp [results, Tryd.results34, go_sem]) rfl ⟨by simp [Sq.withByte], Hb2.out _ _⟩
    · have hz1 : ((z : Int) == 0) = false := by simp; omega
      have hz2 : ((z : Int) == 128) = false := by simp; omega
      go_enter Tryd.func34, Tryd.ntmps34
      go_wp2_with fail
      exact bodyPost_ret (v := .agg #[.int .i64 ((c : Int) + 1), .bool false, .int .i64 ((z : Int) + 1)]) (by simp [results, Tryd.results34, go_sem]) rfl ⟨by rw [Sq.withByte, if_neg (by simp; omega)]; simp, Hb2.out _ _⟩

/-- the cells of plans -/
def flat : List Sq.Plan → List Value
  | [] => []
  | p :: r => .int .i64 p.cost :: .bool p.run :: .int .i64 p.size :: flat r
theorem flat_length : ∀ l : List Sq.Plan, (flat l).length = 3 * l.length
  | [] => rfl
  | p :: r => by simp [flat, flat_length r]; omega
theorem flat_get : ∀ (l : List Sq.Plan) (j : Nat), j < l.length → (flat l)[j * 3]? = some (.int .i64 (l.getD j Sq.nought).cost) ∧ (flat l)[j * 3 + 1]? = some (.bool (l.getD j Sq.nought).run) ∧ (flat l)[j * 3 + 2]? = some (.int .i64 (l.getD j Sq.nought).size)
  | [], _, h => by simp at h
  | p :: r, 0, _ => by simp [flat]
  | p :: r, j + 1, h => by
    have := flat_get r j (by simpa using h)
    simpa [flat, Nat.succ_mul] using this
theorem flat_set : ∀ (l : List Sq.Plan) (j : Nat) (p : Sq.Plan), flat (l.set j p) = (((flat l).set (j * 3) (.int .i64 p.cost)).set (j * 3 + 1) (.bool p.run)).set (j * 3 + 2) (.int .i64 p.size)
  | [], _, _ => rfl
  | q :: r, 0, p => by simp [flat]
  | q :: r, j + 1, p => by
    have := flat_set r j p
    simp [flat, Nat.succ_mul, this]
/-- a row of plans of the call's own -/
def Plans (B : Nat) (ps : List Sq.Plan) (w : World) : Prop := w.heap[B]? = some (.cells (flat ps).toArray 74 (0, 0))
theorem Plans.cell {B : Nat} {ps : List Sq.Plan} {w : World} (h : Plans B ps w) (j : Nat) (hj : j < ps.length) :
    w.cell? ⟨B, j * 3, none⟩ = some (.int .i64 (ps.getD j Sq.nought).cost) ∧ w.cell? ⟨B, j * 3 + 1, none⟩ = some (.bool (ps.getD j Sq.nought).run) ∧ w.cell? ⟨B, j * 3 + 2, none⟩ = some (.int .i64 (ps.getD j Sq.nought).size) := by
  have g := flat_get ps j hj
  simp only [Lib.cell_of_heap h]
  simpa using g
theorem Plans.free {B : Nat} {ps : List Sq.Plan} {w : World} (h : Plans B ps w) (j : Nat) : w.frozen? ⟨B, j, none⟩ = false := Lib.frozen_of_heap h j
theorem Plans.set {B : Nat} {ps : List Sq.Plan} {w : World} (h : Plans B ps w) (j : Nat) (p : Sq.Plan) :
    Plans B (ps.set j p) (((w.setCell ⟨B, j * 3, none⟩ (.int .i64 p.cost)).setCell ⟨B, j * 3 + 1, none⟩ (.bool p.run)).setCell ⟨B, j * 3 + 2, none⟩ (.int .i64 p.size)) := by
  have h1 := block_setCell h (i := j * 3) (.int .i64 p.cost)
  have h2 := block_setCell h1 (i := j * 3 + 1) (.bool p.run)
  have h3 := block_setCell h2 (i := j * 3 + 2) (.int .i64 p.size)
  rw [Plans, h3]
  congr 2
  apply Array.ext'
  rw [flat_set]
  simp
theorem Plans.below {B : Nat} {ps : List Sq.Plan} {w w' : World} (h : Plans B ps w) (hb : Below w.heap.size w w') : Plans B ps w' := by
  have hlt : B < w.heap.size := (Array.getElem?_eq_some_iff.1 h).1
  exact (hb.block B hlt).trans h
theorem Plans.alloc {B : Nat} {ps : List Sq.Plan} {w : World} (h : Plans B ps w) (o : Obj) : Plans B ps (w.alloc o) := by
  have hlt : B < w.heap.size := (Array.getElem?_eq_some_iff.1 h).1
  exact (Below.heap_alloc w o B hlt).trans h
theorem made_plans (n : Nat) : madeCells #[Value.int .i64 0, .bool false, .int .i64 0] (n * 3) = (flat (List.replicate n Sq.nought)).toArray := by
  apply Array.ext'
  rw [madeCells, Array.toList_map, Array.toList_range]
  show (List.range (n * 3)).map _ = flat (List.replicate n Sq.nought)
  induction n with
  | zero => rfl
  | succ n ih =>
    have e : (n + 1) * 3 = n * 3 + 1 + 1 + 1 := by omega
    have f : ∀ n : Nat, flat (List.replicate (n + 1) Sq.nought) = flat (List.replicate n Sq.nought) ++ [.int .i64 0, .bool false, .int .i64 0] := by
      intro n
      induction n with
      | zero => rfl
      | succ n ih =>
        have e : ∀ m : Nat, flat (List.replicate (m + 1) Sq.nought) = [.int .i64 0, .bool false, .int .i64 0] ++ flat (List.replicate m Sq.nought) := fun _ => rfl
        have e2 := e (n + 1)
        rw [ih, ← List.append_assoc, ← e n] at e2
        exact e2
    rw [e, List.range_succ, List.range_succ, List.range_succ, f, ← ih]
    simp only [List.map_append, List.map_cons, List.map_nil, List.append_assoc, List.cons_append, List.nil_append]
    have e0 : n * 3 % 3 = 0 := by omega
    have e1 : (n * 3 + 1) % 3 = 1 := by omega
    have e2 : (n * 3 + 1 + 1) % 3 = 2 := by omega
    simp [e0, e1, e2]
theorem info_plan : (Tryd.prog.info? 74).map (fun i => (i.zero, i.size, i.bytes)) = some (some (.agg #[.int .i64 0, .bool false, .int .i64 0]), 3, 24) := by kernel_rfl
theorem plan_small (l : List UInt8) : (Sq.plan l).cost ≤ 2 * l.length ∧ (Sq.plan l).size ≤ 128 := by
  cases l with
  | nil => simp [Sq.plan_nil, Sq.nought]
  | cons x r =>
    refine ⟨?_, (Sq.plan_is x r).2.1⟩
    rw [Sq.plan_few (4 * (x :: r).length) (x :: r) (.inl (by simp only [List.length_cons]; omega))]
    have := Sq.few_small (4 * (x :: r).length) (x :: r).reverse
    simpa using this

/-- how the run's length goes on -/
theorem same_step (s : ByteArray) (J : Nat) (h : J < s.size) : Sq.same (s.data.toList.drop J) = if hh : J + 1 < s.size then (if s[J + 1] = s[J] then Sq.same (s.data.toList.drop (J + 1)) + 1 else 1) else 1 := by
  have hl := Lib.size_eq s
  have d1 : s.data.toList.drop J = s[J] :: s.data.toList.drop (J + 1) := by
    rw [List.drop_eq_getElem_cons (by omega), Array.getElem_toList]
    rfl
  split
  · rename_i hh
    have d2 : s.data.toList.drop (J + 1) = s[J + 1] :: s.data.toList.drop (J + 2) := by
      rw [List.drop_eq_getElem_cons (by omega), Array.getElem_toList]
      rfl
    rw [d1, d2]
    simp only [Sq.same]
    by_cases e : s[J + 1] = s[J]
    · rw [if_pos e, if_pos e.symm]
    · rw [if_neg e, if_neg (fun h => e h.symm)]
  · have d2 : s.data.toList.drop (J + 1) = [] := List.drop_eq_nil_of_le (by omega)
    rw [d1, d2]
    rfl
theorem plan_step (s : ByteArray) (J : Nat) (h : J < s.size) : Sq.plan (s.data.toList.drop J) =
    if 2 ≤ Sq.same (s.data.toList.drop J) ∧ (Sq.plan (s.data.toList.drop (J + min (Sq.same (s.data.toList.drop J)) 128))).cost + 2 < (Sq.withByte (Sq.plan (s.data.toList.drop (J + 1)))).cost then
      ⟨(Sq.plan (s.data.toList.drop (J + min (Sq.same (s.data.toList.drop J)) 128))).cost + 2, true, min (Sq.same (s.data.toList.drop J)) 128⟩ else Sq.withByte (Sq.plan (s.data.toList.drop (J + 1))) := by
  have hl := Lib.size_eq s
  have d1 : s.data.toList.drop J = s[J] :: s.data.toList.drop (J + 1) := by
    rw [List.drop_eq_getElem_cons (by omega), Array.getElem_toList]
    rfl
  rw [← List.drop_drop]
  rw [d1]
  exact Sq.plan_cons _ _

set_option maxRecDepth 100000 in
set_option maxHeartbeats 1000000 in
theorem plans_any (s : ByteArray) (w : World) (hs : s.size ≤ 1048576) :
    Calls Tryd.prog 22 #[.string s] w fun e w' => e = .returned (.slice (some ⟨w.heap.size, 0, none⟩) (s.size + 1) (s.size + 1)) ∧ Plans w.heap.size (Sq.tab s.data.toList) w' ∧ Below w.heap.size w w' := by
  obtain ⟨i0, hi, hz0, hz1, hz2⟩ := info_parts info_plan
  have hmk : ∀ u : World, (Instr.makeSlice 66 (.int .i64 ((s.size : Int) + 1)) (.int .i64 ((s.size : Int) + 1))).run Tryd.prog u =
      .ok (.slice (some ⟨u.heap.size, 0, none⟩) (s.size + 1) (s.size + 1)) (u.alloc (.cells (madeCells #[Value.int .i64 0, .bool false, .int .i64 0] ((s.size + 1) * 3)) 74)) := fun u => by
    have h := run_make (P := Tryd.prog) u 66 74 i0 (.agg #[.int .i64 0, .bool false, .int .i64 0]) Tryd.underlying66 hi hz0 .i64 .i64 ((s.size : Int) + 1) ((s.size : Int) + 1) (by omega) (Int.le_refl _) (by rw [hz2]; omega) (by omega)
    have e : ((s.size : Int) + 1).toNat = s.size + 1 := by omega
    rw [e] at h
    simpa [hz1, Value.cells] using h
  clear hi hz0 hz1 hz2
  have hI0 : Plans w.heap.size (List.replicate (s.size + 1) Sq.nought) (w.alloc (.cells (madeCells #[Value.int .i64 0, .bool false, .int .i64 0] ((s.size + 1) * 3)) 74)) := by
    rw [Plans, made_plans]
    exact heap_alloc_new _ _
  have hb0 : Below w.heap.size w (w.alloc (.cells (madeCells #[Value.int .i64 0, .bool false, .int .i64 0] ((s.size + 1) * 3)) 74)) := (Below.refl _ w).alloc (Nat.le_refl _) _
  have HI0 : Hid _ := hI0
  clear hI0
  go_enter Tryd.func22, Tryd.ntmps22
  go_wp2_with fail
  go_loopg [4, 5] s.size (fun g m t wx => ∃ (ps : List Sq.Plan), g ≤ s.size ∧ m = .int .i64 (Sq.same (s.data.toList.drop g)) ∧ t = .int .i64 ((g : Int) - 1) ∧ ps.length = s.size + 1 ∧ (∀ j, g ≤ j → j ≤ s.size → ps.getD j Sq.nought = Sq.plan (s.data.toList.drop j)) ∧ Plans w.heap.size ps wx ∧ Below w.heap.size w wx)
  case atStart =>
    refine ⟨_, Nat.le_refl _, ?_, rfl, by simp, ?_, HI0.out, hb0⟩
    · rw [Lib.size_eq, List.drop_length]; rfl
    · intro j hj1 hj2
      obtain rfl : j = s.size := by omega
      rw [Lib.size_eq, List.drop_length]
      simp [Sq.plan_nil]
  case round =>
    obtain ⟨ps, hJ, rfl, rfl, hpl, hps, hI, hb⟩ := hrel
    clear hmk hb0 HI0
    by_cases h1 : 1 ≤ gk
    · obtain ⟨J, rfl⟩ : ∃ J, gk = J + 1 := ⟨gk - 1, by omega⟩
      rw [show (((J + 1 : Nat) : Int) - 1) = (J : Int) from by omega]
      have hsl : Sq.same (s.data.toList.drop (J + 1)) ≤ 1048576 := by have := Sq.same_le (s.data.toList.drop (J + 1)); rw [List.length_drop, ← Lib.size_eq] at this; omega
      have hJs : J < s.size := by clear hpl hps hsl; omega
      have hst := same_step s J hJs
      have hp0 := (plan_small (s.data.toList.drop (J + 1)))
      have hpc := plan_step s J hJs
      rw [List.length_drop, ← Lib.size_eq] at hp0
      have hm0p : J + 1 < s.size → 1 ≤ Sq.same (s.data.toList.drop (J + 1)) := fun h => by
        cases hd : s.data.toList.drop (J + 1) with
        | nil =>
          have := congrArg List.length hd
          rw [List.length_drop, ← Lib.size_eq] at this
          simp at this
          omega
        | cons x r => exact Sq.same_pos x r
      have hm0z : ¬ J + 1 < s.size → Sq.same (s.data.toList.drop (J + 1)) = 0 := fun h => by
        rw [List.drop_eq_nil_of_le (by rw [← Lib.size_eq]; omega)]
        rfl
      have hm1s : Sq.same (s.data.toList.drop J) ≤ s.size - J := by have := Sq.same_le (s.data.toList.drop J); rw [List.length_drop, ← Lib.size_eq] at this; exact this
      generalize hm0 : Sq.same (s.data.toList.drop (J + 1)) = m0 at *
      generalize hm1 : Sq.same (s.data.toList.drop J) = m1 at *
      have hm1l : 1 ≤ m1 ∧ m1 ≤ m0 + 1 ∧ J + m1 ≤ s.size := by
        split at hst
        · split at hst <;> omega
        · omega
      have Hst : Hid _ := hst
      have Hps : Hid _ := hps
      have Hpl : Hid _ := hpl
      have Hm1 : Hid _ := hm1
      have Hpc : Hid _ := hpc
      have Hm0p : Hid _ := hm0p
      have Hm0z : Hid _ := hm0z
      clear hps hpl hm0 hm1 hst hpc hm0p hm0z hm1s
      have hm0' : (m0 : Int) ≤ 1048576 := by omega
      go_wp2_with fail
      go_cut [36] (fun b wx => b = .bool (decide (J + 1 < s.size ∧ m1 = 1 ∧ m0 + 1 ≠ 1)) ∧ Plans w.heap.size ps wx ∧ Below w.heap.size w wx)
      case first =>
        by_cases hA : J + 1 < s.size
        · have hA' : (J : Int) + 1 < (s.size : Int) := by omega
          have hx1 : ∀ u : World, (Instr.index 9 (.string s) (.int .i64 ((J : Int) + 1))).run Tryd.prog u = .ok (.int .u8 ((s[J + 1]'hA).toNat : Int)) u := fun u => idx_run u s _ _ hA (by omega)
          have hx2 : ∀ u : World, (Instr.index 9 (.string s) (.int .i64 (J : Int))).run Tryd.prog u = .ok (.int .u8 ((s[J]'hJs).toNat : Int)) u := fun u => idx_run u s _ _ hJs (by omega)
          go_quiet (fail)
          go_wp2_with fail
          go_meet
          refine ⟨?_, hI, below_drewN hb _⟩
          have hst := Hst.out
          rw [dif_pos hA] at hst
          have hm := Hm0p.out hA
          by_cases he : s[J + 1] = s[J]
          · rw [if_pos he] at hst
            rw [decide_eq_false (by omega), he]
            simp
          · rw [if_neg he] at hst
            rw [decide_eq_true ⟨hA, hst, by omega⟩]
            have : ¬ (s[J + 1].toNat = s[J].toNat) := fun h => he (UInt8.toNat_inj.1 h)
            simp
            omega
        · have hA' : decide ((J : Int) + 1 < (s.size : Int)) = false := by simp; omega
          go_quiet (fail)
          go_wp2_with fail
          go_meet
          exact ⟨by rw [decide_eq_false (by omega)], hI, below_drewN hb _⟩
      case rest =>
        obtain ⟨rfl, hI1, hb1⟩ := hcut
        clear hI hb
        generalize hbb : decide (J + 1 < s.size ∧ m1 = 1 ∧ m0 + 1 ≠ 1) = bb
        have Hbb : Hid _ := hbb
        clear hbb
        go_upto_if 36 with fail
        go_cut [4] (fun m wx => m = .int .i64 m1 ∧ Plans w.heap.size ps wx ∧ Below w.heap.size w wx)
        case first =>
          cases bb with
          | true =>
            go_wp2
            go_meet
            have hm := of_decide_eq_true Hbb.out
            exact ⟨by rw [hm.2.1]; rfl, hI1, hb1⟩
          | false =>
            go_wp2
            go_meet
            have hm := of_decide_eq_false Hbb.out
            have hst := Hst.out
            refine ⟨?_, hI1, hb1⟩
            have e : m1 = m0 + 1 := by
              by_cases hA : J + 1 < s.size
              · have := Hm0p.out hA
                rw [dif_pos hA] at hst
                split at hst
                · exact hst
                · omega
              · have := Hm0z.out hA
                rw [dif_neg hA] at hst
                omega
            rw [e]
            go_num
        case rest =>
          obtain ⟨rfl, hI2, hb2⟩ := hcut
          clear hI1 hb1 Hst Hbb
          have c := hI2.cell (J + 1) (by have := Hpl.out; omega)
          rw [Hps.out (J + 1) (by omega) (by omega)] at c
          obtain ⟨c0, c1, c2⟩ := c
          have hw2 := (plan_small (s.data.toList.drop (J + min m1 128)))
          rw [List.length_drop, ← Lib.size_eq] at hw2
          have hcn := fun h => (hI2.cell (J + min m1 128) h).1
          have hcn := hcn (by have := Hpl.out; omega)
          rw [Hps.out (J + min m1 128) (by omega) (by omega)] at hcn
          generalize Sq.plan (s.data.toList.drop (J + 1)) = p1 at *
          generalize hpn : Sq.plan (s.data.toList.drop (J + min m1 128)) = pn at *
          have Hpn : Hid _ := hpn
          clear hpn
          have hwc := Sq.withByte_cost p1
          go_wp2_with fail
          refine (withByte_any p1 _ (by omega) (by omega)).mono ?_
          generalize Sq.withByte p1 = q at *
          rintro e w3 ⟨rfl, hb3⟩
          have hI3 := hI2.below hb3
          have hb4 := hb2.trans (hb3.mono hb2.size)
          have hlt3 : w.heap.size < w3.heap.size := (Array.getElem?_eq_some_iff.1 hI3).1
          clear c0 c1 c2 hcn
          have hcn := (hI3.cell (J + min m1 128) (by have := Hpl.out; omega)).1
          rw [Hps.out (J + min m1 128) (by omega) (by omega), Hpn.out] at hcn
          obtain ⟨c0, c1, c2⟩ := hI3.cell J (by have := Hpl.out; omega)
          have hfr := hI3.free
          have hfin : ∀ (p : Sq.Plan) (c z : Int) (o : Obj), Sq.plan (s.data.toList.drop J) = p → c = p.cost → z = p.size → ∃ (ps' : List Sq.Plan), ps'.length = s.size + 1 ∧ (∀ j, J ≤ j → j ≤ s.size → ps'.getD j Sq.nought = Sq.plan (s.data.toList.drop j)) ∧
              Plans w.heap.size ps' ((((w3.setCell ⟨w.heap.size, J * 3, none⟩ (.int .i64 c)).setCell ⟨w.heap.size, J * 3 + 1, none⟩ (.bool p.run)).setCell ⟨w.heap.size, J * 3 + 2, none⟩ (.int .i64 z)).alloc o) ∧
              Below w.heap.size w ((((w3.setCell ⟨w.heap.size, J * 3, none⟩ (.int .i64 c)).setCell ⟨w.heap.size, J * 3 + 1, none⟩ (.bool p.run)).setCell ⟨w.heap.size, J * 3 + 2, none⟩ (.int .i64 z)).alloc o) := by
            intro p c z o hp hc hz
            subst hc hz
            have hpl := Hpl.out
            refine ⟨ps.set J p, by rw [List.length_set]; exact hpl, ?_, (hI3.set J p).alloc _, (((hb4.setCell (Nat.le_refl _) _).setCell (Nat.le_refl _) _).setCell (Nat.le_refl _) _).alloc (by simp; omega) _⟩
            intro j h1 h2
            simp only [List.getD_eq_getElem?_getD, List.getElem?_set]
            by_cases hjJ : J = j
            · subst hjJ
              rw [if_pos rfl, if_pos (by omega), hp]
              rfl
            · rw [if_neg hjJ, ← Hps.out j (by omega) h2, List.getD_eq_getElem?_getD]
          have Hfin : Hid _ := hfin
          clear hfin hI3 hb4 Hps Hpl hI2 hb2
          have hcn' : w3.cell? ⟨w.heap.size, ((J : Int) + min (m1 : Int) 128).toNat * 3, none⟩ = some (.int .i64 pn.cost) := by
            rw [show ((J : Int) + min (m1 : Int) 128).toNat = J + min m1 128 from by omega]
            exact hcn
          clear hcn
          have hn1 : min (m1 : Int) 128 ≤ 128 := by omega
          have hn2 : 1 ≤ min (m1 : Int) 128 := by omega
          have hn3 : (J : Int) + min (m1 : Int) 128 ≤ s.size := by omega
          by_cases hm2 : 2 ≤ m1
          · have hm2' : 2 ≤ (m1 : Int) := by omega
            by_cases hc : (pn.cost : Int) + 2 < q.cost
            · go_wp2_with fail
              go_roundg J
              case measure => omega
              case rel =>
                have this := Hpc.out
                rw [if_pos ⟨hm2, by omega⟩] at this
                have k1 : ((pn.cost : Int) + 2) = ((pn.cost + 2 : Nat) : Int) := by omega
                have k2 : (min (m1 : Int) 128) = ((min m1 128 : Nat) : Int) := by omega
                obtain ⟨ps', g1, g2, g3, g4⟩ := Hfin.out ⟨pn.cost + 2, true, min m1 128⟩ ((pn.cost : Int) + 2) (min (m1 : Int) 128) (.cells #[.int .i64 ((pn.cost : Int) + 2), .bool true, .int .i64 (min (m1 : Int) 128)] 74) this k1 k2
                exact ⟨ps', by omega, by rw [Hm1.out], rfl, g1, g2, g3, g4⟩
            · go_wp2_with fail
              go_roundg J
              case measure => omega
              case rel =>
                have this := Hpc.out
                rw [if_neg (by omega)] at this
                obtain ⟨ps', g1, g2, g3, g4⟩ := Hfin.out q _ _ (.cells #[.int .i64 q.cost, .bool q.run, .int .i64 q.size] 74) this rfl rfl
                exact ⟨ps', by omega, by rw [Hm1.out], rfl, g1, g2, g3, g4⟩
          · have hm2' : ¬ 2 ≤ (m1 : Int) := by omega
            go_wp2_with fail
            go_roundg J
            case measure => omega
            case rel =>
              have this := Hpc.out
              rw [if_neg (by omega)] at this
              obtain ⟨ps', g1, g2, g3, g4⟩ := Hfin.out q _ _ (.cells #[.int .i64 q.cost, .bool q.run, .int .i64 q.size] 74) this rfl rfl
              exact ⟨ps', by omega, by rw [Hm1.out], rfl, g1, g2, g3, g4⟩
    · obtain rfl : gk = 0 := by omega
      have Hps : Hid _ := hps
      have Hpl : Hid _ := hpl
      clear hps hpl
      go_wp2
      go_ret
      refine ⟨rfl, ?_, hb⟩
      have e : Sq.tab s.data.toList = ps := by
        apply List.ext_getElem
        · rw [Sq.tab_length, ← Lib.size_eq]; exact Hpl.out.symm
        · intro j h1 h2
          have hpl := Hpl.out
          have e1 := Sq.tab_drop j s.data.toList (by rw [← Lib.size_eq]; omega)
          have e2 := Hps.out j (Nat.zero_le _) (by omega)
          rw [← e1] at e2
          simpa [List.getD_eq_getElem?_getD, h1, h2] using e2.symm
      rw [e]
      exact hI
end Go.Proofs.YtpibpdpedjinhaaDoor
