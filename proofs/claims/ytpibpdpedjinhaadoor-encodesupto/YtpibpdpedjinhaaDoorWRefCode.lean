/- The walks of tributaryref.number, begun and Code: what they give are Im.num, Im.begun and Im.code. -/
import Derived.Test.YtpibpdpedjinhaaDoorWItem
namespace Go.Proofs.YtpibpdpedjinhaaDoor
open Go.RowKit Go.Joins

theorem ba_append (a b : ByteArray) : (a ++ b).data.toList = a.data.toList ++ b.data.toList := by simp
theorem ret_str {a : ByteArray} {l : List UInt8} (h : a.data.toList = l) : Ending.returned (.string a) = .returned (.string ⟨l.toArray⟩) := by
  subst h
  rfl
/-- a string of one byte -/
theorem one_byte (u : World) (x : Int) : (convert 69 9 (.slice (some ⟨u.heap.size, 0, none⟩) 1 1)).run Tryd.prog (u.alloc (.cells #[.int .u8 x] 5)) = .ok (.string ⟨#[UInt8.ofNat x.toNat]⟩) (u.alloc (.cells #[.int .u8 x] 5)) := by
  have h := run_convert_bytes_arg (P := Tryd.prog) (u.alloc (.cells #[.int .u8 x] 5)) 69 5 Tryd.underlying69 Tryd.underlying5 u.heap.size 0 1 1 [x] rfl (fun i hi => by
    obtain rfl : i = 0 := by omega
    simp) 9 Tryd.underlying9
  exact h

theorem one_byte' (u : World) (x : Int) (m : Nat) (y : UInt8) (hm : x = (m : Int)) (hy : UInt8.ofNat m = y) : (convert 69 9 (.slice (some ⟨u.heap.size, 0, none⟩) 1 1)).run Tryd.prog (u.alloc (.cells #[.int .u8 x] 5)) = .ok (.string ⟨#[y]⟩) (u.alloc (.cells #[.int .u8 x] 5)) := by
  have := one_byte u x
  subst hm hy
  exact this

set_option maxRecDepth 100000 in
set_option maxHeartbeats 1000000 in
theorem number_any (n : Nat) (w : World) (hn : n < 4294967296) :
    Calls Tryd.prog 45 #[.int .i64 n] w fun e w' => e = .returned (.string ⟨(Im.num 4 n).toArray⟩) ∧ Below w.heap.size w w' := by
  generalize hE : Im.num 4 n = E
  have HE : Hid _ := hE
  clear hE
  have hw4 := (Im.wid_le n).1
  go_enter Tryd.func45, Tryd.ntmps45
  go_wp2_with fail
  go_loopg [0, 3] n (fun g t v wx => ∃ (m f : Nat) (s : ByteArray), t = .int .i64 m ∧ v = .string s ∧ g = m ∧ m < 4294967296 ∧ Im.wid m ≤ f ∧ s.size + f ≤ 4 ∧ Hid (Im.num f m ++ s.data.toList = E) ∧ Below w.heap.size w wx)
  case atStart => exact ⟨n, 4, ⟨#[]⟩, rfl, rfl, rfl, hn, hw4, Nat.le_refl _, by rw [Hid]; simpa using HE.out, Below.refl _ _⟩
  case round =>
    obtain ⟨m, f, s, rfl, rfl, rfl, hm, hf, hs, Hacc, hb⟩ := hrel
    by_cases h0 : 0 < gk
    · have h0' : 0 < (gk : Int) := by omega
      have hcv := one_byte wr ((gk : Int) % 256)
      have hss : (s.size : Int) ≤ 4 := by omega
      go_wp2_with fail
      go_roundg (gk / 256)
      case measure => omega
      case rel =>
        have hwd := Im.wid_div gk (by omega) hm
        obtain ⟨f', rfl⟩ : ∃ f', f = f' + 1 := ⟨f - 1, by omega⟩
        have hu : UInt8.ofNat ((gk : Int) % 256).toNat = UInt8.ofNat (gk % 256) := by
          congr 1
        refine ⟨gk / 256, f', ⟨#[UInt8.ofNat ((gk : Int) % 256).toNat]⟩ ++ s, by go_num, rfl, rfl, by omega, by omega, ?_, ?_, hb.alloc hb.size _⟩
        · have : ((⟨#[UInt8.ofNat ((gk : Int) % 256).toNat]⟩ : ByteArray) ++ s).size = 1 + s.size := by rw [ByteArray.size_append]; rfl
          omega
        · have := Hacc.out
          rw [Im.num, if_neg (by omega)] at this
          rw [Hid, ← this, hu]
          simp
    · have h0' : ¬ 0 < (gk : Int) := by omega
      obtain rfl : gk = 0 := by omega
      have hfin : s.data.toList = E := by have := Hacc.out; rw [Im.num_zero] at this; exact this
      go_wp2_with fail
      go_ret
      rw [← hfin]
      exact ⟨rfl, hb⟩

set_option maxRecDepth 100000 in
set_option maxHeartbeats 1000000 in
theorem begun_any (near : Nat) (s : ByteArray) (w : World) (hn : near = 128 ∨ near = 192) (hs : s.size ≤ 16777216) :
    Calls Tryd.prog 31 #[.int .i64 near, .string s] w fun e w' => e = .returned (.string ⟨(Im.begun near s.data.toList).toArray⟩) ∧ Below w.heap.size w w' := by
  have hl := Lib.size_eq s
  have hn1 : near ≤ 192 := by omega
  clear hn
  by_cases h55 : s.size ≤ 55
  · have h55' : (s.size : Int) ≤ 55 := by omega
    obtain ⟨y, hy⟩ : ∃ y, UInt8.ofNat (near + s.size) = y := ⟨_, rfl⟩
    have hcv := one_byte' w ((near : Int) + s.size) (near + s.size) y (by omega) hy
    have hE : Im.begun near s.data.toList = [y] ++ s.data.toList := by
      unfold Im.begun Im.head
      rw [← hl, if_pos h55, hy]
    have HE : Hid _ := hE
    clear hE hl hy
    go_enter Tryd.func31, Tryd.ntmps31
    go_wp2_with fail
    go_ret
    refine ⟨?_, (Below.refl _ w).alloc (Nat.le_refl _) _⟩
    rw [HE.out]
    refine ret_str ?_
    rw [ba_append]
  · have h55' : ¬ (s.size : Int) ≤ 55 := by omega
    have hwl := Im.wid_le s.size
    have hnl := Im.num_len 4 s.size (by omega) hwl.1
    obtain ⟨y, hy⟩ : ∃ y, UInt8.ofNat (near + 55 + Im.wid s.size) = y := ⟨_, rfl⟩
    have hE : Im.begun near s.data.toList = [y] ++ Im.num 4 s.size ++ s.data.toList := by
      unfold Im.begun Im.head
      rw [← hl, if_neg h55, hy]
      rfl
    have HE : Hid _ := hE
    have hcv0 := fun w1 : World => one_byte' w1 ((near : Int) + 55 + (Im.wid s.size : Int)) (near + 55 + Im.wid s.size) y (by omega) hy
    clear hE hl hy
    go_enter Tryd.func31, Tryd.ntmps31
    go_wp2_with fail
    refine (number_any s.size _ (by omega)).mono ?_
    rintro e w1 ⟨rfl, hb1⟩
    generalize Im.num 4 s.size = N at *
    generalize Im.wid s.size = k at *
    have hcv := hcv0 w1
    clear hcv0
    go_wp2_with fail
    go_ret
    refine ⟨?_, hb1.alloc hb1.size _⟩
    rw [HE.out]
    refine ret_str ?_
    rw [ba_append, ba_append]
end Go.Proofs.YtpibpdpedjinhaaDoor
