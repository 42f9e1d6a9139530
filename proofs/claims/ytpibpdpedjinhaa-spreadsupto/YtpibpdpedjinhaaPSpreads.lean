/- For all arguments of bulk at most 1048576 tributarylaw.Spreads returns true and leaves its arguments as they read: Spread agrees with the document's, Squeeze stands for its bytes, in as few bytes as can be. -/
import Derived.Test.YtpibpdpedjinhaaRows
import Derived.Test.YtpibpdpedjinhaaWSqueeze2
import Derived.ProofKit
import Derived.OpenShut
import Derived.JoinedCond
namespace Go.Proofs.Ytpibpdpedjinhaa.spreads
open Go.ChangeShapes Go.WideShapes Go.ChangeAt Go.RowKit
open Go.ChangeMaps (open_string shut_string)

theorem own : ownKnob Try.prog.godebug = none := by kernel_rfl

/-- WHAT THE BOUND GIVES: the texts' lengths. -/
theorem short {H : Type} {s p : ByteArray} {m : Int} (hk : Rows.uptoSmall H [.lit (.string s.data.toList), .lit (.int .i64 m), .lit (.string p.data.toList)] = true) : s.size ≤ 1048576 ∧ p.size ≤ 1048576 := by
  have h : Rows.uptoBulkAll [DataW.lit (H := H) (.string s.data.toList), .lit (.int .i64 m), .lit (.string p.data.toList)] ≤ 1048576 := of_decide_eq_true hk
  simp only [Rows.uptoBulkAll, Rows.uptoBulk] at h
  have e1 := Lib.size_eq s
  have e2 := Lib.size_eq p
  omega

set_option maxRecDepth 100000 in
set_option maxHeartbeats 1000000 in
theorem walk (s : ByteArray) (most : Int) (p : ByteArray) (w : World) (hs : s.size ≤ 1048576) (hp : p.size ≤ 1048576) (hm1 : -9223372036854775808 ≤ most) (hm2 : most ≤ 9223372036854775807) :
    Calls Try.prog 3 #[.string s, .int .i64 most, .string p] w fun e w' => e = .returned (.bool true) ∧ Below w.heap.size w w' := by
  have hl := Lib.size_eq p
  have hcost := (plan_small p.data.toList).1
  have henc := Sq.enc_length p.size p.data.toList (by omega)
  have hse := Sq.spread_enc p.size p.data.toList (Sq.enc p.size p.data.toList).length p.size [] (by omega) (Nat.le_refl _) (by rw [List.length_nil]; omega)
  have hfew := Sq.plan_few (4 * p.size) p.data.toList (by
    rw [← hl]
    by_cases h0 : p.size = 0
    · right; exact List.eq_nil_of_length_eq_zero (by omega)
    · left; omega)
  rw [hfew] at henc
  rw [List.nil_append] at hse
  have hq : (Sq.enc p.size p.data.toList).length ≤ 4194304 := by rw [henc, ← hfew]; omega
  generalize hE : Sq.enc p.size p.data.toList = E at *
  generalize hF : Sq.few (4 * p.size) p.data.toList.reverse = f at *
  generalize hR : Sq.spread s.size s.data.toList most [] = R
  have Hse : Hid _ := hse
  have Henc : Hid _ := henc
  have HE : Hid _ := hE
  have HF : Hid _ := hF
  have HR : Hid _ := hR
  clear hl hcost hfew hse henc hE hF hR
  go_enter Try.func3, Try.ntmps3
  go_wp2_with fail
  refine (spread_any s most _ hs hm1 hm2).mono ?_
  rintro e w1 ⟨rfl, hb1⟩
  rw [HR.out]
  go_wp2_with fail
  refine (rspread_any s most _ (by omega) hm1 hm2).mono ?_
  rintro e w2 ⟨rfl, rfl⟩
  rw [HR.out]
  go_wp2_with fail
  refine (squeeze_any p _ hp).mono ?_
  rintro e w3 ⟨rfl, hb3⟩
  rw [HE.out]
  have hb4 := hb1.trans (hb3.mono hb1.size)
  clear hb1 hb3
  go_wp2_with fail
  refine (rspread_any ⟨E.toArray⟩ (p.size : Int) _ (by show E.toArray.size ≤ _; simp; omega) (by omega) (by omega)).mono ?_
  rintro e w4 ⟨rfl, rfl⟩
  have e1 : Sq.spread (⟨E.toArray⟩ : ByteArray).size (⟨E.toArray⟩ : ByteArray).data.toList (p.size : Int) [] = (p.data.toList, true) := by
    have := Hse.out
    have e2 : (⟨E.toArray⟩ : ByteArray).size = E.length := by rw [Lib.size_eq]
    rw [e2]
    exact this
  rw [e1]
  clear e1
  have e3 : (⟨p.data.toList.toArray⟩ : ByteArray) = p := rfl
  rw [e3]
  clear e3
  go_wp2_with fail
  refine (least_any p _ hp).mono ?_
  rintro e w5 ⟨rfl, hb5⟩
  rw [HF.out]
  have hEf : ((E.length : Int) == (f : Int)) = true := by have := Henc.out; simp [this]
  have hb6 := hb4.trans (hb5.mono hb4.size)
  go_wp2
  go_ret
  exact ⟨rfl, hb6⟩

theorem contract (H : Type) (enc : TypeId × Value → H) (W : World) (base : Nat) (args : Array Value) (ds gs : List (DataW H)) (before : List MemPlace)
    (hval : ∀ (j : Nat) t v, Try.f3.params[j]? = some t → args[j]? = some v → Value.okWide Try.prog W .any base t v)
    (hW : DataW.Whole enc Try.prog Try.f3.params.toList Rows.spreadsSpec.vars false W args.toList ds gs before) (hk : Rows.uptoSmall H (ds ++ gs) = true) :
    Calls Try.prog 3 args W fun e W' => ∃ v, e = .returned v ∧ Rows.spreadsSpec.post enc Try.prog Try.f3 false true false false W args v W' := by
  have hW' := hW
  obtain ⟨p, q, hA0, hV, rfl, hfz, hnd⟩ := hW
  have hA : DataW.TrodAll enc Try.prog W 0 (fun _ => true) true Try.f3.params.toList args.toList ds p := hA0
  rw [Try.params3] at hA hval
  obtain ⟨v0, vs0, d0, ds0, p0, q0, hargs, rfl, rfl, h0, r0⟩ := trodAll_cons hA
  obtain ⟨v1, vs1, d1, ds1, p1, q1, rfl, rfl, rfl, h1, r1⟩ := trodAll_cons r0
  obtain ⟨v2, vs2, d2, ds2, p2, q2, rfl, rfl, rfl, h2, r2⟩ := trodAll_cons r1
  obtain ⟨rfl, rfl, rfl⟩ := trodAll_nil r2
  obtain rfl : args = #[v0, v1, v2] := by cases args; simp_all
  obtain ⟨rfl, rfl⟩ := trodVars_none hV
  obtain ⟨s, rfl, rfl, rfl, hmax⟩ := open_string Try.underlying9 (hval 0 9 v0 rfl rfl) h0
  obtain ⟨m, rfl, rfl, rfl, wm⟩ := open_int Try.underlying3 (hval 1 3 v1 rfl rfl) h1
  obtain ⟨t, rfl, rfl, rfl, hmax2⟩ := open_string Try.underlying9 (hval 2 9 v2 rfl rfl) h2
  clear hA0
  simp only [List.append_nil] at hW' hk
  have hb := short hk
  have hm := bounds_i64 wm
  refine (walk s m t W hb.1 hb.2 hm.1 hm.2).mono fun e W' ⟨he, bel⟩ => ?_
  subst he
  exact ⟨_, rfl, _, _, _, [], [], [], hW', trodAll_mk1 (shut_bool Try.underlying4 _), (trodAll_cons_mk (shut_string Try.underlying9 hmax) (trodAll_cons_mk (shut_int Try.underlying3 wm) (trodAll_cons_mk (shut_string Try.underlying9 hmax2) trodAll_mk0))), rfl, bel.frame _, fun h => by cases h⟩

set_option maxRecDepth 100000 in
theorem lifted (os : Os) (started : os.Started) (H : Type) (enc : TypeId × Value → H) (F : Stop.Interp) :
    ReturnsInHanded {} Try.checked os 3 .any ((Rows.OpenSpec.upto Rows.spreadsSpec).pre6 enc Try.prog Try.f3 Rows.spreadsUptoRow.domain false) (((Rows.OpenSpec.upto Rows.spreadsSpec).at F).post enc Try.prog Try.f3 false true false false) := by
  refine returnsInHanded_of_cond (C := Try.checked) (s := Rows.OpenSpec.upto Rows.spreadsSpec) (k := Rows.uptoSmall) rfl own started (by kernel_rfl) Try.func3
    (OpenSpec.witness (enc := enc) (C := Try.checked) (s := Rows.OpenSpec.upto Rows.spreadsSpec) (k := Rows.uptoSmall) rfl false ⟨#[], #[.string .empty, .int .i64 0, .string .empty], []⟩ 8 (by kernel_rfl) (by kernel_rfl) (by kernel_rfl)
      (x := ([.lit (.string []), .lit (.int .i64 0), .lit (.string [])], [], [])) (by kernel_rfl) rfl (by kernel_rfl)) ?_
  intro W base args ds gs before hval hW _ hk _
  exact contract H enc W base args ds gs before hval hW hk

theorem proved : Rows.SpreadsUptoSaid :=
  OpenClaim.holds_of_cond 3 Try.f3 rfl rfl rfl rfl rfl rfl rfl ⟨rfl, rfl, rfl, rfl, rfl⟩ rfl rfl rfl rfl rfl (by kernel_rfl) Try.func3 (by kernel_rfl)
    (of_decide_eq_true (by kernel_rfl)) (by unfold Func.isWrapper; first | (rw [if_pos (by decide +kernel)]; kernel_rfl) | (rw [if_neg (by decide +kernel)]; exact ⟨rfl, rfl⟩))
    (fun os started H enc _ F => lifted os started H enc F)
end Go.Proofs.Ytpibpdpedjinhaa.spreads
namespace Go.Proofs.Ytpibpdpedjinhaa
theorem spreads_holds : Rows.SpreadsUptoSaid := spreads.proved
end Go.Proofs.Ytpibpdpedjinhaa
