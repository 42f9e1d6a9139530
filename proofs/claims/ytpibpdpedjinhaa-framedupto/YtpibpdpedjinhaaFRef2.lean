/- The walk of tributaryref.Frames: what it finds is Fr.frames, in a row of its own. -/
import Derived.Test.YtpibpdpedjinhaaFRef
namespace Go.Proofs.Ytpibpdpedjinhaa.Fr
open Go.RowKit Go.Joins

theorem info_frame : (Try.prog.info? 42).map (fun i => (i.zero, i.size, i.bytes)) = some (some (.agg #[.int .u32 0, .int .u16 0, .string ⟨#[]⟩, .bool false]), 4, 32) := by kernel_rfl

set_option maxRecDepth 100000 in
set_option maxHeartbeats 4000000 in
theorem rframes_any (s : ByteArray) (w : World) (hs : s.size ≤ 16777216) :
    Calls Try.prog 10 #[.string s] w fun e w' => GotF w.heap.size w' e (frames s.data.toList) ∧ Below w.heap.size w w' := by
  have hl := Lib.size_eq s
  generalize hR : frames s.data.toList = R
  have HR : Hid _ := hR
  clear hR
  by_cases h2 : s.size < 2
  · obtain rfl : R = none := HR.out.symm.trans (frames_no (.inl (by omega)))
    have h2' : (s.size : Int) < 2 := by omega
    clear hl
    go_enter Try.func10, Try.ntmps10
    go_wp2_with fail
    go_ret2
    exact ⟨rfl, Below.refl _ _⟩
  · have h2' : ¬ (s.size : Int) < 2 := by omega
    have hs0 : 0 < s.size := by omega
    have hx := fun u => idx_run u s 0 0 hs0 rfl
    have hg0 := getD_byte s 0 hs0
    by_cases h0 : s[0].toNat = 0
    · have h0' : ((s[0].toNat : Int) == 0) = true := by simp [h0]
      have hok : ¬ (s.data.toList.length < 2 ∨ s.data.toList.getD 0 0 ≠ 0) := by
        rw [hg0]
        rintro (h | h)
        · omega
        · exact h (UInt8.toNat_inj.1 h0)
      have Hok : Hid _ := hok
      obtain ⟨i0, hi, hz0, hz1, hz2⟩ := info_parts info_frame
      have Hi : Hid _ := And.intro hi (And.intro hz0 (And.intro hz1 hz2))
      clear hok hl hg0 hi hz0 hz1 hz2
      go_enter Try.func10, Try.ntmps10
      go_wp2_with fail
      go_loopg [4, 5] (s.size - 1) (fun g v4 v5 wx => ∃ (l : List F) (p : Nat) (a : Option Addr) (cap : Nat), v4 = .slice a l.length cap ∧ v5 = .int .i64 p ∧ g = s.size - p ∧ Hid (Eaten s.data.toList l p ∧ wx.ownsRow w.heap.size 42 4 (.slice a l.length cap) l.length (flat l) ∧ Below w.heap.size w wx))
      case atStart => exact ⟨[], 1, none, 0, rfl, rfl, rfl, Eaten.nil, World.ownsRow_nil _ _ _ _, Below.refl _ _⟩
      case round =>
        obtain ⟨l, p, a, cap, rfl, rfl, rfl, HI⟩ := hrel
        obtain ⟨heat, hown, hb⟩ := HI.out
        have hle := heat.le (by rw [← Lib.size_eq]; omega)
        rw [← Lib.size_eq] at hle
        have hl := Lib.size_eq s
        by_cases hp : p < s.size
        · have hp' : (p : Int) < (s.size : Int) := by omega
          by_cases h9 : s.size < p + 9
          · have h9' : (s.size : Int) < (p : Int) + 9 := by omega
            obtain rfl : R = none := HR.out.symm.trans (heat.stuck Hok.out (by omega) (one_near (by omega)))
            clear hl heat hown HI
            go_wp2_with fail
            go_ret2
            exact ⟨rfl, hb⟩
          · have h9' : ¬ (s.size : Int) < (p : Int) + 9 := by omega
            have hone := one_far (s := s.data.toList) (p := p) (by omega)
            have hbig6 := fun u : World => big_any s (p + 6) 2 u hs (by omega) (by omega)
            have hbig0 : ∀ u : World, Calls Try.prog 21 #[.string s, .int .i64 (p : Int), .int .i64 4] u fun e w' => e = .returned (.int .i64 (big s.data.toList p 4 : Nat)) ∧ w' = u := fun u : World => big_any s p 4 u hs (by omega) (by omega)
            have hbig4 : ∀ u : World, Calls Try.prog 21 #[.string s, .int .i64 ((p + 4 : Nat) : Int), .int .i64 2] u fun e w' => e = .returned (.int .i64 (big s.data.toList (p + 4) 2 : Nat)) ∧ w' = u := fun u : World => big_any s (p + 4) 2 u hs (by omega) (by omega)
            have l6 := big_lt s.data.toList (p + 6) 2
            have l0 := big_lt s.data.toList p 4
            have l4 := big_lt s.data.toList (p + 4) 2
            simp only [Nat.reducePow] at l6 l0 l4
            rw [show ((p + 6 : Nat) : Int) = (p : Int) + 6 from by omega] at hbig6
            rw [show ((p + 4 : Nat) : Int) = (p : Int) + 4 from by omega] at hbig4
            generalize hN : big s.data.toList (p + 6) 2 = N at *
            generalize hC4 : big s.data.toList p 4 = C4 at *
            generalize hC2 : big s.data.toList (p + 4) 2 = C2 at *
            have Hbig6 : Hid _ := hbig6
            have Hbig0 : Hid _ := hbig0
            have Hbig4 : Hid _ := hbig4
            have Hone : Hid _ := hone
            have HE : Hid _ := And.intro heat hown
            clear hbig6 hbig0 hbig4 hone hl HI hN hC4 hC2 heat hown
            go_wp2_with fail
            refine (Hbig6.out wr).mono ?_
            rintro e w1 ⟨rfl, hw1⟩
            obtain rfl : wr = w1 := hw1.symm
            by_cases hn : s.size < p + 9 + N
            · have hn' : (s.size : Int) < (p : Int) + 9 + (N : Int) := by omega
              obtain rfl : R = none := HR.out.symm.trans (HE.out.1.stuck Hok.out (by rw [← Lib.size_eq]; omega) (by rw [Hone.out, if_pos (by rw [← Lib.size_eq]; omega)]))
              go_wp2_with fail
              go_ret2
              exact ⟨rfl, hb⟩
            · have hn' : ¬ (s.size : Int) < (p : Int) + 9 + (N : Int) := by omega
              have hci : p + 8 + N < s.size := by omega
              have hx8 := fun u => idx_run u s ((p : Int) + 8 + (N : Int)) (p + 8 + N) hci (by omega)
              have hg8 := getD_byte s (p + 8 + N) hci
              obtain ⟨c, hc⟩ : ∃ c : Nat, s[p + 8 + N].toNat = c := ⟨_, rfl⟩
              have hcl : c < 256 := by rw [← hc]; exact UInt8.toNat_lt _
              rw [hc] at hx8
              have hon2 := Hone.out
              rw [if_neg (by rw [← Lib.size_eq]; omega), hg8, hc] at hon2
              have Hon2 : Hid _ := hon2
              clear hg8 hc hon2
              by_cases hc1 : 1 < c
              · have hc1' : (1 : Int) < (c : Int) := by omega
                obtain rfl : R = none := HR.out.symm.trans (HE.out.1.stuck Hok.out (by rw [← Lib.size_eq]; omega) (by rw [Hon2.out, if_pos hc1]))
                go_wp2_with fail
                go_ret2
                exact ⟨rfl, hb⟩
              · have hc1' : ¬ (1 : Int) < (c : Int) := by omega
                obtain ⟨lb, hlb⟩ : ∃ lb : Bool, ((c : Int) == 1) = lb := ⟨_, rfl⟩
                have hlb2 : (c == 1) = lb := by
                  rw [← hlb]
                  rcases (by omega : c = 0 ∨ c = 1) with rfl | rfl <;> rfl
                have hon3 : one s.data.toList p = some (⟨C4, C2, (s.data.toList.take (p + 8 + N)).drop (p + 8), lb⟩, 9 + N) := by rw [Hon2.out, if_neg hc1, hlb2]
                obtain ⟨D, hD⟩ : ∃ D : ByteArray, s.extract (p + 8) (p + 8 + N) = D := ⟨_, rfl⟩
                have hDl : (⟨((s.data.toList.take (p + 8 + N)).drop (p + 8)).toArray⟩ : ByteArray) = D := by rw [← hD, ← ext_list]
                have hw32 : IntKind.u32.wrap (C4 : Int) = (C4 : Int) := by rw [IntKind.wrap_u32]; omega
                have hw16 : IntKind.u16.wrap (C2 : Int) = (C2 : Int) := by rw [IntKind.wrap_u16]; omega
                have hown3 : ∀ o : Obj, (wr.drew.alloc o).ownsRow w.heap.size 42 4 (.slice a l.length cap) l.length (flat l) := fun o => own_below HE.out.2 (((Below.refl _ wr).drew).alloc (Nat.le_refl _) o)
                have Hown3 : Hid _ := hown3
                have Hon3 : Hid _ := And.intro hon3 hDl
                have sb := hb.size
                have hb0 : (0 : Int) ≤ (p : Int) + 8 := by omega
                have hb1 : (p : Int) + 8 ≤ (p : Int) + 8 + (N : Int) := by omega
                have hb2 : (p : Int) + 8 + (N : Int) ≤ (s.size : Int) := by omega
                have hD2 : s.extract ((p : Int) + 8).toNat ((p : Int) + 8 + (N : Int)).toNat = D := by rw [← hD]; congr 1
                have hwA : IntKind.i64.wrap ((p : Int) + 8) = (p : Int) + 8 := by rw [IntKind.wrap_i64]; omega
                have hwB : IntKind.i64.wrap ((p : Int) + 8 + (N : Int)) = (p : Int) + 8 + (N : Int) := by rw [IntKind.wrap_i64]; omega
                have hwC : IntKind.i64.wrap ((p : Int) + 4) = (p : Int) + 4 := by rw [IntKind.wrap_i64]; omega
                obtain ⟨P4, hP4⟩ : ∃ P4 : Int, (p : Int) + 4 = P4 := ⟨_, rfl⟩
                rw [hP4] at Hbig4
                have hwC2 : IntKind.i64.wrap ((p : Int) + 4) = P4 := hwC.trans hP4
                have HP4 : Hid _ := hP4
                clear hwC hP4
                have hslice : ∀ u : World, (Instr.slice 9 (.string s) (some (.int .i64 ((p : Int) + 8))) (some (.int .i64 ((p : Int) + 8 + (N : Int)))) none).run Try.prog u = .ok (.string D) u := fun u => by rw [run_slice_string u _ s .i64 .i64 _ _ Try.underlying9 hb0 hb1 hb2, hD2]
                clear hown3 hon3 hDl hlb2 Hon2 hD hD2 hb0 hb1 hb2
                go_upto_region 11 with fail
                go_region_held3 (fun _ => True) (trivial) (first | (go_at_call 21; first | (with_reducible refine Calls.mono (Hbig0.out _) ?_; rintro e w3 ⟨rfl, rfl⟩) | (with_reducible refine Calls.mono (Hbig4.out _) ?_; rintro e w3 ⟨rfl, rfl⟩)) | (refine step_append_lies _ (by rfl) (.tmp 44) (.tmp 70) 36 (by rfl) w.heap.size 42 i0 _ 4 32 Try.underlying36 Hi.out.1 Hi.out.2.1 Hi.out.2.2.1 Hi.out.2.2.2 (by rfl) (by decide) _ l.length (flat l) (by rfl) (Hown3.out _) ⟨wr.heap.size, 0, none⟩ 1 1 [.int .u32 C4, .int .u16 C2, .string D, .bool lb] (by rfl) (by rfl) (by intro j u hj; match j, hj with | 0, hj => (simp at hj; subst hj; simp [Addr.add]) | 1, hj => (simp at hj; subst hj; simp [Addr.add]) | 2, hj => (simp at hj; subst hj; simp [Addr.add]) | 3, hj => (simp at hj; subst hj; simp [Addr.add])) (by intro u hu; simp at hu; rcases hu with rfl | rfl | rfl | rfl <;> rfl) (by decide) (by unfold maxLen; omega) (by omega) (by simp; omega) (wr.heap.size + 1) (by simp) ?_; intro g4 cap4 w4 hown5 hgr5 hat5 hlt5) | fail)
                all_goals
                  have hrow : Hid (w4.ownsRow w.heap.size 42 4 (.slice (some ⟨g4, 0, none⟩) (l.length + 1) cap4) (l.length + 1) (flat (l ++ [⟨C4, C2, (s.data.toList.take (p + 8 + N)).drop (p + 8), lb⟩]))) := by
                    rw [flat_append]
                    simp only [flat, fcells, List.append_nil]
                    rw [Hon3.out.2]
                    exact hown5
                  have hbel : Hid (Below w.heap.size w w4) := Below.grown ((hb.drew).alloc (by simp; omega) _) hgr5 (by simp; omega) (fun m hm => (own_lt HE.out.2 hm).1)
                  clear hown5 hgr5 hat5 hlt5
                  go_wp2_with fail
                  go_roundg (s.size - (p + (9 + N)))
                  case measure => omega
                  case rel =>
                    refine ⟨l ++ [⟨C4, C2, (s.data.toList.take (p + 8 + N)).drop (p + 8), lb⟩], p + (9 + N), some ⟨g4, 0, none⟩, cap4, by simp, congrArg (Value.int .i64) (by omega), rfl, ?_, ?_, hbel.out⟩
                    · exact Eaten.snoc HE.out.1 (by rw [← Lib.size_eq]; exact hp) Hon3.out.1
                    · rw [show (l ++ [(⟨C4, C2, (s.data.toList.take (p + 8 + N)).drop (p + 8), lb⟩ : F)]).length = l.length + 1 from by simp]
                      exact hrow.out
        · have hp' : ¬ (p : Int) < (s.size : Int) := by omega
          obtain rfl : R = some l := HR.out.symm.trans (heat.all Hok.out (by omega))
          have Hown : Hid _ := hown
          clear hl heat hown HI
          go_wp2_with fail
          go_ret2
          exact ⟨⟨a, cap, rfl, Hown.out⟩, hb⟩
    · have h0' : ((s[0].toNat : Int) == 0) = false := by simp; omega
      obtain rfl : R = none := HR.out.symm.trans (frames_no (.inr (by rw [hg0]; intro h; exact h0 (by rw [h]; rfl))))
      clear hl hg0
      go_enter Try.func10, Try.ntmps10
      go_wp2_with fail
      go_ret2
      exact ⟨rfl, Below.refl _ _⟩
end Go.Proofs.Ytpibpdpedjinhaa.Fr
