/- The walk of tributarylaw.word: a mark as a text. -/
import Derived.Test.YtpibpdpedjinhaaDoorWOwn3
namespace Go.Proofs.YtpibpdpedjinhaaDoor
open Go.RowKit Go.Joins

/-- a mark's text -/
def markB (n : Nat) : ByteArray := ⟨#[UInt8.ofNat ((n : Int) % 256).toNat, UInt8.ofNat ((n : Int) / 256 % 256).toNat, UInt8.ofNat ((n : Int) / 65536 % 256).toNat, UInt8.ofNat (109 : Int).toNat]⟩
theorem four_bytes (u : World) (x y z t : Int) : (convert 69 9 (.slice (some ⟨u.heap.size, 0, none⟩) 4 4)).run Tryd.prog (u.alloc (.cells #[.int .u8 x, .int .u8 y, .int .u8 z, .int .u8 t] 5)) = .ok (.string ⟨#[UInt8.ofNat x.toNat, UInt8.ofNat y.toNat, UInt8.ofNat z.toNat, UInt8.ofNat t.toNat]⟩) (u.alloc (.cells #[.int .u8 x, .int .u8 y, .int .u8 z, .int .u8 t] 5)) := by
  have h := run_convert_bytes_arg (P := Tryd.prog) (u.alloc (.cells #[.int .u8 x, .int .u8 y, .int .u8 z, .int .u8 t] 5)) 69 5 Tryd.underlying69 Tryd.underlying5 u.heap.size 0 4 4 [x, y, z, t] rfl (fun i hi => by
    have hi : i < 4 := hi
    match i, hi with
    | 0, _ => simp
    | 1, _ => simp
    | 2, _ => simp
    | 3, _ => simp) 9 Tryd.underlying9
  exact h

set_option maxRecDepth 100000 in
set_option maxHeartbeats 1000000 in
theorem word_any (n : Nat) (w : World) :
    Calls Tryd.prog 21 #[.int .i64 n] w fun e w' => e = .returned (.string (markB n)) ∧ Below w.heap.size w w' := by
  have hcv := four_bytes w ((n : Int) % 256) ((n : Int) / 256 % 256) ((n : Int) / 65536 % 256) 109
  have hm : (⟨#[UInt8.ofNat ((n : Int) % 256).toNat, UInt8.ofNat ((n : Int) / 256 % 256).toNat, UInt8.ofNat ((n : Int) / 65536 % 256).toNat, UInt8.ofNat (109 : Int).toNat]⟩ : ByteArray) = markB n := rfl
  rw [hm] at hcv
  clear hm
  generalize markB n = M at *
  go_enter Tryd.func21, Tryd.ntmps21
  go_wp2_with fail
  go_ret
  exact ⟨rfl, (Below.refl _ w).alloc (Nat.le_refl _) _⟩
end Go.Proofs.YtpibpdpedjinhaaDoor
