/- Items as they lie in memory, and the walk of tributarylaw.sameItem: of one and the same item it tells true. -/
import Derived.Test.YtpibpdpedjinhaaDoorChecked
import Derived.Test.YtpibpdpedjinhaaDoorItems
import Derived.WalkKit
import Derived.WalkSpells
import Derived.BigCall
import Derived.Lib.SmallJoins
import Derived.Lib.Builder
import Derived.Deep.QuietTactic
import Derived.BigQuiet
import Derived.Deep.DeepCutAuto
import Derived.Deep.RegionWith
namespace Go.Proofs.YtpibpdpedjinhaaDoor
open Go.RowKit Go.Joins

/-- three cells in a row -/
def K3 (w : World) (b o : Nat) (d0 d1 d2 : Value) : Prop := w.cell? ⟨b, o, none⟩ = some d0 ∧ w.cell? ⟨b, o + 1, none⟩ = some d1 ∧ w.cell? ⟨b, o + 2, none⟩ = some d2
/-- the three cells of an item, and what it leads to, all of it below block B -/
def In (B : Nat) (w : World) : Nat → Value → Value → Value → Im.It → Prop
  | 0, _, _, _, _ => False
  | n + 1, c0, c1, c2, i => c0 = .bool i.list ∧ c1 = .string ⟨i.bytes.toArray⟩ ∧ ∃ a cap, c2 = .slice a i.kids.length cap ∧ (i.kids ≠ [] → ∃ b off, a = some ⟨b, off, none⟩ ∧ b < B ∧ ∀ (j : Nat) (hj : j < i.kids.length), ∃ d0 d1 d2, K3 w b (off + j * 3) d0 d1 d2 ∧ In B w n d0 d1 d2 (i.kids[j]))
theorem K3.below {B : Nat} {w w' : World} {b o : Nat} {d0 d1 d2 : Value} (h : K3 w b o d0 d1 d2) (hb : Below B w w') (hlt : b < B) : K3 w' b o d0 d1 d2 :=
  ⟨(hb.cell (p := ⟨b, o, none⟩) hlt).trans h.1, (hb.cell (p := ⟨b, o + 1, none⟩) hlt).trans h.2.1, (hb.cell (p := ⟨b, o + 2, none⟩) hlt).trans h.2.2⟩
theorem In.below {B : Nat} {w w' : World} (hb : Below B w w') : ∀ (n : Nat) (c0 c1 c2 : Value) (i : Im.It), In B w n c0 c1 c2 i → In B w' n c0 c1 c2 i
  | 0, _, _, _, _, h => h
  | n + 1, c0, c1, c2, i, h => by
    obtain ⟨h0, h1, a, cap, h2, h3⟩ := h
    refine ⟨h0, h1, a, cap, h2, fun hk => ?_⟩
    obtain ⟨b, off, ha, hlt, hj⟩ := h3 hk
    refine ⟨b, off, ha, hlt, fun j hjl => ?_⟩
    obtain ⟨d0, d1, d2, hk3, hin⟩ := hj j hjl
    exact ⟨d0, d1, d2, hk3.below hb hlt, In.below hb n d0 d1 d2 _ hin⟩
theorem In.mono {B B' : Nat} {w : World} (hB : B ≤ B') : ∀ (n : Nat) (c0 c1 c2 : Value) (i : Im.It), In B w n c0 c1 c2 i → In B' w n c0 c1 c2 i
  | 0, _, _, _, _, h => h
  | n + 1, c0, c1, c2, i, h => by
    obtain ⟨h0, h1, a, cap, h2, h3⟩ := h
    refine ⟨h0, h1, a, cap, h2, fun hk => ?_⟩
    obtain ⟨b, off, ha, hlt, hj⟩ := h3 hk
    refine ⟨b, off, ha, by omega, fun j hjl => ?_⟩
    obtain ⟨d0, d1, d2, hk3, hin⟩ := hj j hjl
    exact ⟨d0, d1, d2, hk3, In.mono hB n d0 d1 d2 _ hin⟩
theorem In.dp {B : Nat} {w : World} : ∀ (n : Nat) (c0 c1 c2 : Value) (i : Im.It), In B w n c0 c1 c2 i → Im.dp n i
  | 0, _, _, _, _, h => h
  | n + 1, c0, c1, c2, i, h => by
    obtain ⟨h0, h1, a, cap, h2, h3⟩ := h
    intro k hk
    obtain ⟨j, hj, rfl⟩ := List.mem_iff_getElem.1 hk
    obtain ⟨b, off, ha, hlt, hj'⟩ := h3 (by intro e; rw [e] at hj; simp at hj)
    obtain ⟨d0, d1, d2, hk3, hin⟩ := hj' j hj
    exact In.dp n d0 d1 d2 _ hin
theorem In.shape {B : Nat} {w : World} {n : Nat} {c0 c1 c2 : Value} {i : Im.It} (h : In B w n c0 c1 c2 i) : ∃ a cap, c0 = .bool i.list ∧ c1 = .string ⟨i.bytes.toArray⟩ ∧ c2 = .slice a i.kids.length cap := by
  cases n with
  | zero => cases h
  | succ n =>
    obtain ⟨h0, h1, a, cap, h2, _⟩ := h
    exact ⟨a, cap, h0, h1, h2⟩
theorem below_drewN {B : Nat} {a w : World} (h : Below B a w) (n : Nat) : Below B a (w.drewN n) := h.trans ⟨rfl, rfl, rfl, Nat.le_refl _, fun _ _ => rfl⟩

set_option maxRecDepth 100000 in
set_option maxHeartbeats 2000000 in
theorem same_any : ∀ (n : Nat) (B : Nat) (i : Im.It) (c0 c1 c2 e0 e1 e2 : Value) (w : World), B ≤ w.heap.size → Im.wt n i ≤ 2097152 → In B w n c0 c1 c2 i → In B w n e0 e1 e2 i →
    Calls Tryd.prog 9 #[.agg #[c0, c1, c2], .agg #[e0, e1, e2]] w fun e w' => e = .returned (.bool true) ∧ Below w.heap.size w w' := by
  intro n
  induction n with
  | zero => intro B i c0 c1 c2 e0 e1 e2 w _ _ h; cases h
  | succ n ih =>
    intro B i c0 c1 c2 e0 e1 e2 w hB hw h g
    have hdp := In.dp _ _ _ _ _ h
    have hkl := Im.kids_le hdp
    obtain ⟨rfl, rfl, a, cap, rfl, h3⟩ := h
    obtain ⟨rfl, rfl, a', cap', rfl, g3⟩ := g
    have Hih : Hid _ := ih
    have H3 : Hid _ := h3
    have G3 : Hid _ := g3
    clear ih h3 g3
    have hl : i.kids.length ≤ 2097152 := by omega
    go_enter Tryd.func9, Tryd.ntmps9
    go_wp2_with fail
    obtain ⟨X, hX⟩ : ∃ X : World, X = ((w.alloc (.cells #[.bool i.list, .string ⟨i.bytes.toArray⟩, .slice a i.kids.length cap] 24)).alloc (.cells #[.bool i.list, .string ⟨i.bytes.toArray⟩, .slice a' i.kids.length cap'] 24)) := ⟨_, rfl⟩
    have hXs : X.heap.size = w.heap.size + 2 := by rw [hX]; simp
    have hX0 : X.cell? ⟨w.heap.size, 2, none⟩ = some (.slice a i.kids.length cap) := by rw [hX]; simp
    have hX1 : X.cell? ⟨w.heap.size + 1, 2, none⟩ = some (.slice a' i.kids.length cap') := by rw [hX]; simp
    have hXb : Below w.heap.size w X := by rw [hX]; exact ((Below.refl _ w).alloc (Nat.le_refl _) _).alloc (by simp) _
    rw [← hX]
    have HXs : Hid _ := hXs
    have HX0 : Hid _ := hX0
    have HX1 : Hid _ := hX1
    clear hX hXs hX0 hX1
    go_loopg [5] i.kids.length (fun g t wx => ∃ k : Nat, k ≤ i.kids.length ∧ t = .int .i64 k ∧ g = i.kids.length - k ∧ Below (w.heap.size + 2) X wx)
    case atStart => exact ⟨0, Nat.zero_le _, rfl, rfl, Below.refl _ _⟩
    case round =>
      obtain ⟨k, hk, rfl, rfl, hb⟩ := hrel
      have hsz := hb.size
      rw [HXs.out] at hsz
      have c0 : wr.cell? ⟨w.heap.size, 2, none⟩ = some (.slice a i.kids.length cap) := (hb.cell (p := ⟨w.heap.size, 2, none⟩) (by simp)).trans HX0.out
      have c1 : wr.cell? ⟨w.heap.size + 1, 2, none⟩ = some (.slice a' i.kids.length cap') := (hb.cell (p := ⟨w.heap.size + 1, 2, none⟩) (by simp)).trans HX1.out
      have hbw : Below w.heap.size w wr := hXb.trans (hb.mono (by omega))
      by_cases hlt : k < i.kids.length
      · have hlt' : (k : Int) < (i.kids.length : Int) := by omega
        have hne : i.kids ≠ [] := by intro e; rw [e] at hlt; simp at hlt
        obtain ⟨b, off, rfl, hbB, hj⟩ := H3.out hne
        obtain ⟨b', off', rfl, hbB', hj'⟩ := G3.out hne
        obtain ⟨d0, d1, d2, hd, hin⟩ := hj k hlt
        obtain ⟨f0, f1, f2, hf, hin'⟩ := hj' k hlt
        have hwk := Im.wt_kid (n := n) (List.getElem_mem hlt)
        have hd' := hd.below hbw (by omega)
        have hf' := hf.below hbw (by omega)
        obtain ⟨p0, p1, p2⟩ := hd'
        obtain ⟨q0, q1, q2⟩ := hf'
        have hcall := fun (W : World) (hW : Below w.heap.size w W) => Hih.out B (i.kids[k]) d0 d1 d2 f0 f1 f2 W (Nat.le_trans hB hW.size) (by omega) (In.below (hW.mono hB) _ _ _ _ _ hin) (In.below (hW.mono hB) _ _ _ _ _ hin')
        have Hcall : Hid _ := hcall
        clear hcall hj hj' hd hf hin hin' hne
        go_upto_region 6 with fail
        go_cut [6] (fun v wx => v = .bool true ∧ Below (w.heap.size + 2) X wx)
        case first =>
          go_region_with (go_at_call 9; refine (Hcall.out _ ?_).mono ?_; (first | exact hbw | exact hbw.drew | exact below_drewN hbw _); rintro e w3 ⟨rfl, hb3⟩)
          all_goals
            go_wp2_with fail
            go_meet
            have hm := hb3.mono hsz
            exact ⟨rfl, Below.trans (by first | exact hb | exact hb.drew | exact below_drewN hb _) hm⟩
        case rest =>
          obtain ⟨rfl, hb4⟩ := hcut
          clear c0 c1 p0 p1 p2 q0 q1 q2 hb hbw
          go_wp2_with fail
          go_roundg (i.kids.length - (k + 1))
          case measure => omega
          case rel => exact ⟨k + 1, by omega, by go_num, rfl, hb4⟩
      · have hlt' : ¬ (k : Int) < (i.kids.length : Int) := by omega
        go_wp2_with fail
        go_ret
        exact ⟨rfl, hbw⟩
end Go.Proofs.YtpibpdpedjinhaaDoor
