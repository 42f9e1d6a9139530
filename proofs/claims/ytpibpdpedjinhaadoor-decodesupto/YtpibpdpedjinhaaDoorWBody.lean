/- The walks of item.head's body and farBody and of item.firstBody: what they find is Im.chk, Im.far and Im.body. -/
import Derived.Test.YtpibpdpedjinhaaDoorDec2
import Derived.Test.YtpibpdpedjinhaaDoorWMake2
import Derived.Laws.ResultCell
namespace Go.Proofs.YtpibpdpedjinhaaDoor
open Go.RowKit Go.Joins

/-- where a body stands, or none, as two results -/
def bodyV : Option (Bool × Nat × Nat) → Value
  | some (l, f, t) => .tuple #[.agg #[.bool l, .int .i64 f, .int .i64 t], .bool true]
  | none => .tuple #[.agg #[.bool false, .int .i64 0, .int .i64 0], .bool false]
theorem getD_byte (s : ByteArray) (f : Nat) (h : f < s.size) : s.data.toList.getD f 0 = s[f] := by
  have hl := Lib.size_eq s
  rw [List.getD_eq_getElem?_getD, List.getElem?_eq_getElem (by omega), Array.getElem_toList]
  rfl

set_option maxRecDepth 100000 in
set_option maxHeartbeats 1000000 in
theorem body_any (l : Bool) (x y : Int) (s : ByteArray) (f n : Nat) (w : World) (hs : s.size ≤ 16777216) (hf : f ≤ s.size) (hn : n < 4294967296) :
    Calls Tryd.prog 60 #[.agg #[.bool l, .int .u8 x, .int .u8 y], .string s, .int .i64 f, .int .u64 n] w fun e w' => e = .returned (bodyV (Im.chk l s.data.toList f n)) ∧ Below w.heap.size w w' := by
  have hl := Lib.size_eq s
  have hb2 : ∀ (a b : Obj), Below w.heap.size w ((w.alloc a).alloc b) := fun a b => ((Below.refl _ w).alloc (Nat.le_refl _) _).alloc (by simp) _
  have Hb2 : Hid _ := hb2
  clear hb2
  have hsf : 0 ≤ (s.size : Int) - (f : Int) := by omega
  have hwr : IntKind.u64.wrap ((s.size : Int) - (f : Int)) = (s.size : Int) - (f : Int) := by rw [IntKind.wrap_u64]; omega
  by_cases h1 : s.size - f < n
  · have hR : Im.chk l s.data.toList f n = none := by unfold Im.chk; rw [← hl, if_pos h1]
    rw [hR]
    have h1' : (s.size : Int) - (f : Int) < (n : Int) := by omega
    clear hR hl
    go_enter Tryd.func60, Tryd.ntmps60
    go_wp2_with fail
    exact bodyPost_ret (v := .tuple #[.agg #[.bool false, .int .i64 0, .int .i64 0], .bool false]) (by simp [results, Tryd.results60, go_sem]) rfl ⟨rfl, Hb2.out _ _⟩
  · have h1' : ¬ (s.size : Int) - (f : Int) < (n : Int) := by omega
    by_cases h2 : l = false ∧ n = 1 ∧ (s.data.toList.getD f 0).toNat < 128
    · have hR : Im.chk l s.data.toList f n = none := by unfold Im.chk; rw [← hl, if_neg h1, if_pos h2]
      rw [hR]
      obtain ⟨rfl, rfl, h3⟩ := h2
      have hfs : f < s.size := by omega
      rw [getD_byte s f hfs] at h3
      have h3' : (s[f].toNat : Int) < 128 := by omega
      have hx := fun u => idx_run u s (f : Int) f hfs rfl
      clear hR hl h3
      go_enter Tryd.func60, Tryd.ntmps60
      go_wp2_with fail
      exact bodyPost_ret (v := .tuple #[.agg #[.bool false, .int .i64 0, .int .i64 0], .bool false]) (by simp [results, Tryd.results60, go_sem]) rfl ⟨rfl, Hb2.out _ _⟩
    · have hR : Im.chk l s.data.toList f n = some (l, f, f + n) := by unfold Im.chk; rw [← hl, if_neg h1, if_neg h2]
      rw [hR]
      clear hR
      cases l with
      | true =>
        clear hl h2
        go_enter Tryd.func60, Tryd.ntmps60
        go_wp2_with fail
        exact bodyPost_ret (v := .tuple #[.agg #[.bool true, .int .i64 f, .int .i64 ((f : Int) + (n : Int))], .bool true]) (by simp [results, Tryd.results60, go_sem]) rfl ⟨by simp [bodyV], Hb2.out _ _⟩
      | false =>
        by_cases hn1 : n = 1
        · subst hn1
          have hfs : f < s.size := by omega
          have h3 : ¬ (s[f].toNat : Int) < 128 := by
            rw [getD_byte s f hfs] at h2
            intro h; exact h2 ⟨rfl, rfl, by omega⟩
          have hx := fun u => idx_run u s (f : Int) f hfs rfl
          clear hl h2
          go_enter Tryd.func60, Tryd.ntmps60
          go_wp2_with fail
          exact bodyPost_ret (v := .tuple #[.agg #[.bool false, .int .i64 f, .int .i64 ((f : Int) + 1)], .bool true]) (by simp [results, Tryd.results60, go_sem]) rfl ⟨by simp [bodyV], Hb2.out _ _⟩
        · have hn1' : ((n : Int) == 1) = false := by simp; omega
          clear hl h2
          go_enter Tryd.func60, Tryd.ntmps60
          go_wp2_with fail
          exact bodyPost_ret (v := .tuple #[.agg #[.bool false, .int .i64 f, .int .i64 ((f : Int) + (n : Int))], .bool true]) (by simp [results, Tryd.results60, go_sem]) rfl ⟨by simp [bodyV], Hb2.out _ _⟩
end Go.Proofs.YtpibpdpedjinhaaDoor
