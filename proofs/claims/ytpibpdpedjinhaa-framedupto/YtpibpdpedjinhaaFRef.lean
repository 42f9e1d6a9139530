/- The walks of tributaryref.big and tributaryref.Frames: what Frames finds is Fr.frames, in a row of its own. -/
import Derived.Test.YtpibpdpedjinhaaFKit
import Derived.Test.YtpibpdpedjinhaaFPlain
namespace Go.Proofs.Ytpibpdpedjinhaa.Fr
open Go.RowKit Go.Joins

def fcells (x : F) : List Value := [.int .u32 x.chan, .int .u16 x.num, .string ⟨x.data.toArray⟩, .bool x.last]
def flat : List F → List Value
  | [] => []
  | x :: l => fcells x ++ flat l
theorem flat_append : ∀ (a b : List F), flat (a ++ b) = flat a ++ flat b
  | [], _ => rfl
  | x :: a, b => by rw [List.cons_append, flat, flat, flat_append a b, List.append_assoc]
theorem flat_length : ∀ l : List F, (flat l).length = l.length * 4
  | [] => rfl
  | x :: l => by rw [flat, List.length_append, flat_length l]; simp [fcells]; omega
/-- frames, or none, as two results -/
def GotF (lo : Nat) (w' : World) (e : Ending) : Option (List F) → Prop
  | none => e = .returned (.tuple #[.slice none 0 0, .bool false])
  | some l => ∃ a cap, e = .returned (.tuple #[.slice a l.length cap, .bool true]) ∧ w'.ownsRow lo 42 4 (.slice a l.length cap) l.length (flat l)

set_option maxRecDepth 100000 in
set_option maxHeartbeats 1000000 in
theorem big_any (s : ByteArray) (p k : Nat) (w : World) (hs : s.size ≤ 16777216) (hp : p + k ≤ s.size) (hk : k ≤ 4) :
    Calls Try.prog 21 #[.string s, .int .i64 p, .int .i64 k] w fun e w' => e = .returned (.int .i64 (big s.data.toList p k : Nat)) ∧ w' = w := by
  go_enter Try.func21, Try.ntmps21
  go_wp2_with fail
  go_loopg [7, 8] k (fun g v i wx => ∃ j : Nat, j ≤ k ∧ i = .int .i64 ((p : Int) + (j : Int)) ∧ v = .int .i64 (big s.data.toList p j : Nat) ∧ g = k - j ∧ wx = w)
  case atStart => exact ⟨0, Nat.zero_le _, by simp, rfl, rfl, rfl⟩
  case round =>
    obtain ⟨j, hj, rfl, rfl, rfl, rfl⟩ := hrel
    have hbl := big_lt s.data.toList p j
    have hbl2 : big s.data.toList p j < 4294967296 := by
      have := Nat.pow_le_pow_right (n := 256) (by decide) (show j ≤ 4 by omega)
      omega
    by_cases hlt : j < k
    · have hlt' : (p : Int) + (j : Int) < (p : Int) + (k : Int) := by omega
      have hjs : p + j < s.size := by omega
      have hx := fun u => idx_run u s ((p : Int) + (j : Int)) (p + j) hjs (by omega)
      have hst : big s.data.toList p (j + 1) = 256 * big s.data.toList p j + s[p + j].toNat := by rw [big, getD_byte s (p + j) hjs]
      have hcl := s[p + j].toNat_lt
      generalize s[p + j].toNat = c at *
      generalize hV : big s.data.toList p (j + 1) = V at *
      have HV : Hid _ := And.intro hV hst
      clear hV hst
      generalize big s.data.toList p j = U at *
      go_wp2_with fail
      go_roundg (k - (j + 1))
      case measure => omega
      case rel => exact ⟨j + 1, by omega, congrArg (Value.int .i64) (by omega), by rw [HV.out.1, HV.out.2]; exact congrArg (Value.int .i64) (by omega), rfl, rfl⟩
    · obtain rfl : j = k := by omega
      have hlt' : ¬ (p : Int) + (j : Int) < (p : Int) + (j : Int) := by omega
      go_wp2_with fail
      go_ret
      exact ⟨rfl, rfl⟩
end Go.Proofs.Ytpibpdpedjinhaa.Fr
