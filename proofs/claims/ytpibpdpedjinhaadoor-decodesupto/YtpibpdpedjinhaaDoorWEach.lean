/- The walks of strings.Clone and of item.each's function: it gives, one by one, the items that Im.read reads. -/
import Derived.Test.YtpibpdpedjinhaaDoorWRange
import Derived.Test.YtpibpdpedjinhaaDoorWTree
import Derived.Test.YtpibpdpedjinhaaDoorWFirst
import Derived.Test.YtpibpdpedjinhaaDoorDec3
import Derived.Shelf.Abstract
import Derived.Shelf.Strconv.Clone
import Derived.OwnWalkIn
import Derived.TacticsInMore
import Derived.LoopNIn
import Derived.LoopIn
namespace Go.Proofs.YtpibpdpedjinhaaDoor
open Go.RowKit Go.Joins Go.Shelf
attribute [local go_sem] Oper.semAt_some

def ren3 : Go.Shelf.Ren := ⟨fun | 316 => 62 | n => n, fun | 0 => 0 | 3 => 3 | 4 => 4 | 5 => 5 | 9 => 9 | 37 => 69 | 127 => 94 | n => n, fun | n => n⟩
theorem lays316 : Go.Proofs.LaysM.n316 Tryd.prog ren3 := {
  mixed := by kernel_rfl
  f316 := Tryd.func62.trans (congrArg some (by kernel_rfl))
  t0 := Tryd.underlying0
  a0 := Tryd.isAgg0
  z0 := Tryd.sizeOf0
  v0 := Tryd.zeroValue0
  t3 := Tryd.underlying3
  a3 := Tryd.isAgg3
  z3 := Tryd.sizeOf3
  v3 := Tryd.zeroValue3
  t4 := Tryd.underlying4
  a4 := Tryd.isAgg4
  z4 := Tryd.sizeOf4
  v4 := Tryd.zeroValue4
  t5 := Tryd.underlying5
  a5 := Tryd.isAgg5
  z5 := Tryd.sizeOf5
  v5 := Tryd.zeroValue5
  t9 := Tryd.underlying9
  a9 := Tryd.isAgg9
  z9 := Tryd.sizeOf9
  v9 := Tryd.zeroValue9
  t37 := Tryd.underlying69
  a37 := Tryd.isAgg69
  z37 := Tryd.sizeOf69
  v37 := Tryd.zeroValue69
  t127 := Tryd.underlying94
  a127 := Tryd.isAgg94
  z127 := Tryd.sizeOf94
  v127 := Tryd.zeroValue94
  i0 := by kernel_rfl
  i3 := by kernel_rfl
  i4 := by kernel_rfl
  i5 := by kernel_rfl
  i9 := by kernel_rfl
  i37 := by kernel_rfl
  i127 := by kernel_rfl }
set_option maxRecDepth 100000 in
theorem clone_any (s : ByteArray) (w : World) (hs : s.size ≤ 16777216) : Calls Tryd.prog 54 #[.string s] w fun e w' => e = .returned (.string s) ∧ Below w.heap.size w w' := by
  go_enter Tryd.func54, Tryd.ntmps54
  go_wp2_with fail
  refine (Any.stringslite_Clone (ρ := ren3) lays316 s w (by omega)).mono ?_
  rintro e w1 ⟨rfl, hb⟩
  go_wp2_with fail
  go_ret
  exact ⟨rfl, hb⟩

/-- an item and how long its code is, or none, as three results; what of it lies in memory lies there from lo on -/
def Got (n lo : Nat) (w' : World) (e : Ending) : Option (Im.It × Nat) → Prop
  | none => e = .returned (.tuple #[.agg #[.bool false, .string ⟨#[]⟩, .slice none 0 0], .int .i64 0, .bool false])
  | some x => ∃ a cap, e = .returned (.tuple #[.agg #[.bool x.1.list, .string ⟨x.1.bytes.toArray⟩, .slice a x.1.kids.length cap], .int .i64 x.2, .bool true]) ∧ Tr w' n lo w'.heap.size (.bool x.1.list) (.string ⟨x.1.bytes.toArray⟩) (.slice a x.1.kids.length cap) x.1
def FirstSaid (d : Nat) : Prop := ∀ (s : ByteArray) (deep : Nat) (w : World), s.size ≤ 16777216 → deep + d = 9 → Heads w →
    Calls Tryd.prog 47 #[.string s, .int .i64 deep] w fun e w' => Got (d + 1) w.heap.size w' e (Im.read Im.body d s.data.toList) ∧ Below w.heap.size w w'

/-- what a round is handed: where the code ends, and the item -/
structure X where
  e : Nat
  i : Im.It
  a : Option Addr
  cap : Nat
def X.encs (x : X) : Array Value := #[.int .i64 x.e, .agg #[.bool x.i.list, .string ⟨x.i.bytes.toArray⟩, .slice x.a x.i.kids.length x.cap]]
def lastE (l : List X) : Nat := l.foldl (fun _ x => x.e) 0
theorem lastE_snoc (l : List X) (x : X) : lastE (l ++ [x]) = x.e := by simp [lastE]
def XY (n : Nat) (pre : List X) (x : X) (lo : Nat) (W : World) : Prop := pre.length < 16777216 ∧ Tr W n lo W.heap.size (.bool x.i.list) (.string ⟨x.i.bytes.toArray⟩) (.slice x.a x.i.kids.length x.cap) x.i
theorem XY.turn (n : Nat) (pre : List X) (x : X) (lo : Nat) (W W' : World) (h : ∀ k, lo ≤ k → W'.heap[k]? = W.heap[k]?) (hs : W'.heap.size = W.heap.size) (hx : XY n pre x lo W) : XY n pre x lo W' := by
  refine ⟨hx.1, ?_⟩
  rw [hs]
  exact Tr.kept n _ _ _ _ _ _ (fun k h1 _ => h k h1) hx.2
def Done (d : Nat) (s : ByteArray) (xs : List X) : Prop := ∃ p, Im.Eats (Im.read Im.body d) s.data.toList (xs.map X.i) p ∧ lastE xs = p ∧ (s.size ≤ p ∨ p < s.size ∧ Im.read Im.body d (s.data.toList.drop p) = none)
def Left (d : Nat) (s : ByteArray) (xs : List X) : Prop := ∃ p, Im.Eats (Im.read Im.body d) s.data.toList (xs.map X.i) p ∧ lastE xs = p

theorem K3.alloc3 (w : World) (x y z : Value) (t : TypeId) : K3 (w.alloc (.cells #[x, y, z] t)) w.heap.size 0 x y z := ⟨by simp, by simp, by simp⟩
theorem K3.set3 {w : World} {b : Nat} {u0 u1 u2 : Value} {t : TypeId} (h : w.heap[b]? = some (.cells #[u0, u1, u2] t (0, 0))) (x y z : Value) : K3 (((w.setCell ⟨b, 0, none⟩ x).setCell ⟨b, 1, none⟩ y).setCell ⟨b, 2, none⟩ z) b 0 x y z := by
  have h1 := block_setCell h (i := 0) x
  have h2 := block_setCell h1 (i := 1) y
  have h3 := block_setCell h2 (i := 2) z
  refine ⟨?_, ?_, ?_⟩ <;> rw [Lib.cell_of_heap h3] <;> simp
theorem fin_alloc {wr w3 : World} {n lo : Nat} {c0 c1 c2 : Value} {i : Im.It} (hb : Below wr.heap.size wr w3) (ht : Tr w3 n lo w3.heap.size c0 c1 c2 i) (hlo : wr.heap.size ≤ lo) (t : TypeId) :
    Below wr.heap.size wr (w3.alloc (.cells #[c0, c1, c2] t)) ∧ K3 (w3.alloc (.cells #[c0, c1, c2] t)) w3.heap.size 0 c0 c1 c2 ∧ Tr (w3.alloc (.cells #[c0, c1, c2] t)) n wr.heap.size (w3.alloc (.cells #[c0, c1, c2] t)).heap.size c0 c1 c2 i :=
  ⟨hb.alloc hb.size _, K3.alloc3 _ _ _ _ _, Tr.wider (Tr.kept n _ _ _ _ _ _ (fun _ _ m2 => Below.heap_alloc _ _ _ m2) ht) hlo (by simp)⟩
theorem fin_set {wr w3 : World} {n lo : Nat} {c0 c1 c2 u0 u1 u2 : Value} {i : Im.It} {t : TypeId} (hb : Below wr.heap.size wr w3) (ht : Tr w3 n lo w3.heap.size c0 c1 c2 i) (hlo : wr.heap.size < lo) (hz : w3.heap[wr.heap.size]? = some (.cells #[u0, u1, u2] t (0, 0))) :
    Below wr.heap.size wr (((w3.setCell ⟨wr.heap.size, 0, none⟩ c0).setCell ⟨wr.heap.size, 1, none⟩ c1).setCell ⟨wr.heap.size, 2, none⟩ c2) ∧ K3 (((w3.setCell ⟨wr.heap.size, 0, none⟩ c0).setCell ⟨wr.heap.size, 1, none⟩ c1).setCell ⟨wr.heap.size, 2, none⟩ c2) wr.heap.size 0 c0 c1 c2 ∧ Tr (((w3.setCell ⟨wr.heap.size, 0, none⟩ c0).setCell ⟨wr.heap.size, 1, none⟩ c1).setCell ⟨wr.heap.size, 2, none⟩ c2) n wr.heap.size (((w3.setCell ⟨wr.heap.size, 0, none⟩ c0).setCell ⟨wr.heap.size, 1, none⟩ c1).setCell ⟨wr.heap.size, 2, none⟩ c2).heap.size c0 c1 c2 i :=
  ⟨((hb.setCell (Nat.le_refl _) _).setCell (Nat.le_refl _) _).setCell (Nat.le_refl _) _, K3.set3 hz _ _ _, Tr.wider (Tr.kept n _ _ _ _ _ _ (fun _ m1 _ => by
    rw [Below.heap_setCell _ _ _ _ (by simp; omega), Below.heap_setCell _ _ _ _ (by simp; omega), Below.heap_setCell _ _ _ _ (by simp; omega)]) ht) (by omega) (by simp [World.setCell])⟩

set_option maxRecDepth 100000 in
set_option maxHeartbeats 4000000 in
theorem each_gives (d : Nat) (hf : FirstSaid d) (s : ByteArray) (deep sB dB : Nat) (w : World) (hs : s.size ≤ 16777216) (hdd : deep + d = 9) (hH : Heads w) (h0 : 0 < w.heap.size)
    (hsB : w.cell? ⟨sB, 0, none⟩ = some (.string s)) (hdB : w.cell? ⟨dB, 0, none⟩ = some (.int .i64 deep)) (hsl : sB < w.heap.size) (hdl : dB < w.heap.size) :
    Gives Tryd.prog 46 #[.pointer (some ⟨sB, 0, none⟩), .pointer (some ⟨dB, 0, none⟩)] X.encs (fun k => k = 0 ∨ k = sB ∨ k = dB) (XY (d + 1)) (Done d s) (Left d s) w := by
  intro l J Jx W hW hYi hJ0
  have Hf : Hid _ := hf
  have HY : Hid _ := hYi
  have HJ0 : Hid _ := hJ0
  clear hf hYi hJ0
  refine callsIn_of_wp Tryd.func46 rfl trivial ?_ rfl
  simp only [Tryd.ntmps46, List.size_toArray, List.length_cons, List.length_nil, Nat.reduceAdd, Nat.reduceSub, Array.replicate_succ, Array.replicate_zero, List.push_toArray, List.append_toArray, List.nil_append, List.cons_append]
  gi_wp2
  gi_loopw [4] (fun t wr => ∃ (pre : List X) (W0 : World) (p : Nat), t = .int .i64 p ∧ Hid (Im.Eats (Im.read Im.body d) s.data.toList (pre.map X.i) p ∧ lastE pre = p ∧ p ≤ s.size ∧ pre.length ≤ p ∧ J pre W0 ∧ Below W0.heap.size W0 wr ∧ Heads wr ∧ sB < wr.heap.size ∧ dB < wr.heap.size) ∧ wr.cell? ⟨sB, 0, none⟩ = some (.string s) ∧ wr.cell? ⟨dB, 0, none⟩ = some (.int .i64 deep))
    (fun t wr => s.size - (intOf t).toNat)
  case atStart =>
    have := hW.size
    exact ⟨[], W, 0, rfl, ⟨Im.Eats.nil, rfl, Nat.zero_le _, Nat.le_refl _, HJ0.out, Below.refl _ _, hH.below hW h0, by omega, by omega⟩, (hW.cell (p := ⟨sB, 0, none⟩) hsl).trans hsB, (hW.cell (p := ⟨dB, 0, none⟩) hdl).trans hdB⟩
  case round =>
    obtain ⟨pre, W0, p, rfl, Hr, c0, c1⟩ := hrel
    clear hsB hdB
    by_cases hlt : p < s.size
    · have hlt' : (p : Int) < (s.size : Int) := by omega
      have hss : (s.extract p s.size).size ≤ 16777216 := by simp; omega
      have hsl2 : (s.extract p s.size).data.toList = s.data.toList.drop p := by rw [ext_list, List.take_of_length_le (by rw [← Lib.size_eq]; omega)]
      have hcall := fun (W : World) (hW : Below wr.heap.size wr W) => Hf.out (s.extract p s.size) deep W hss hdd (Hr.out.2.2.2.2.2.2.1.below hW Hr.out.2.2.2.2.2.2.1.pos)
      have hb0 := Below.refl wr.heap.size wr
      obtain ⟨_, _, _, _, _, _, _, hsw, hdw⟩ := Hr.out
      have hsw' : sB ≠ wr.heap.size := by omega
      have hdw' : dB ≠ wr.heap.size := by omega
      rw [hsl2] at hcall
      generalize hC : Im.read Im.body d (s.data.toList.drop p) = C at hcall
      have Hcall : Hid _ := hcall
      have HC : Hid _ := hC
      clear hcall hC hsl2
      gi_wp2
      refine wpIn_wide.2 ?_
      cases C with
      | none =>
        go_cut [5, 6, 7] (fun v5 v6 v7 wx => v7 = .bool false ∧ Below wr.heap.size wr wx)
        case first =>
          go_region_with (go_at_call 47; refine (Hcall.out _ ?_).mono ?_; (first | exact hb0 | exact hb0.drew | exact below_drewN hb0 _ | exact hb0.alloc (Nat.le_refl _) _ | exact below_drewN (hb0.alloc (Nat.le_refl _) _) _ | exact (below_drewN hb0 _).alloc (Nat.le_refl _) _); rintro e w3 ⟨hg3, hb3⟩; obtain rfl := hg3; have hb4 : Below wr.heap.size wr w3 := Below.trans (by first | exact hb0 | exact hb0.drew | exact below_drewN hb0 _ | exact hb0.alloc (Nat.le_refl _) _ | exact below_drewN (hb0.alloc (Nat.le_refl _) _) _ | exact (below_drewN hb0 _).alloc (Nat.le_refl _) _) (hb3.mono (by simp)); (try (have hz : w3.heap[wr.heap.size]? = some (.cells #[.bool false, .string ⟨#[]⟩, .slice none 0 0] 24 (0, 0)) := (hb3.block wr.heap.size (by simp)).trans (by first | exact heap_alloc_new _ _ | (have := heap_alloc_new (wr.drewN 0) (.cells #[.bool false, .string ⟨#[]⟩, .slice none 0 0] 24); simpa using this)); have z0 : w3.cell? ⟨wr.heap.size, 0, none⟩ = some (.bool false) := (by rw [Lib.cell_of_heap hz]; rfl); have z1 : w3.cell? ⟨wr.heap.size, 1, none⟩ = some (.string ⟨#[]⟩) := (by rw [Lib.cell_of_heap hz]; rfl); have z2 : w3.cell? ⟨wr.heap.size, 2, none⟩ = some (.slice none 0 0) := (by rw [Lib.cell_of_heap hz]; rfl); have fz := Lib.frozen_of_heap hz)))
          all_goals
            go_wp2_with fail
            go_meet
            refine ⟨rfl, ?_⟩
            first
              | exact hb4.alloc hb4.size _
              | exact below_drewN (hb4.alloc hb4.size _) _
              | exact ((hb4.setCell (Nat.le_refl _) _).setCell (Nat.le_refl _) _).setCell (Nat.le_refl _) _
              | exact below_drewN (((hb4.setCell (Nat.le_refl _) _).setCell (Nat.le_refl _) _).setCell (Nat.le_refl _) _) _
        case rest =>
          obtain ⟨rfl, hb5⟩ := hcut
          gi_wp2
          refine bodyPost_ret (results_none rfl _ _ _) rfl ?_
          obtain ⟨he, hle, hps, hpl, hJ, hbw, hHw, _, _⟩ := Hr.out
          exact ⟨⟨_, rfl⟩, .inl ⟨pre, W0, ⟨p, he, hle, .inr ⟨hlt, HC.out⟩⟩, hJ, hbw.trans (hb5.mono hbw.size)⟩⟩
      | some x =>
        obtain ⟨i, n⟩ := x
        have hfa := Im.read_fair Im.body_body d _ _ _ HC.out
        rw [List.length_drop, ← Lib.size_eq] at hfa
        have hn1 : 1 ≤ n := hfa.1
        have hpn : p + n ≤ s.size := by omega
        clear hfa
        obtain ⟨IB, hIB⟩ : ∃ IB : ByteArray, (⟨i.bytes.toArray⟩ : ByteArray) = IB := ⟨_, rfl⟩
        go_cut [5, 6, 7] (fun v5 v6 v7 wx => ∃ (b : Nat) (a : Option Addr) (cap : Nat), v5 = .pointer (some ⟨b, 0, none⟩) ∧ v6 = .int .i64 n ∧ v7 = .bool true ∧ Below wr.heap.size wr wx ∧ K3 wx b 0 (.bool i.list) (.string IB) (.slice a i.kids.length cap) ∧ Tr wx (d + 1) wr.heap.size wx.heap.size (.bool i.list) (.string IB) (.slice a i.kids.length cap) i)
        case first =>
          go_region_with (go_at_call 47; refine (Hcall.out _ ?_).mono ?_; (first | exact hb0 | exact hb0.drew | exact below_drewN hb0 _ | exact hb0.alloc (Nat.le_refl _) _ | exact below_drewN (hb0.alloc (Nat.le_refl _) _) _ | exact (below_drewN hb0 _).alloc (Nat.le_refl _) _); rintro e w3 ⟨hg3, hb3⟩; obtain ⟨a3, cap3, rfl, ht3⟩ := hg3; simp only at ht3 ⊢; rw [hIB] at ht3 ⊢; have Ht3 : Hid (Tr _ _ _ _ _ _ _ _) := ht3; clear ht3; have hb4 : Below wr.heap.size wr w3 := Below.trans (by first | exact hb0 | exact hb0.drew | exact below_drewN hb0 _ | exact hb0.alloc (Nat.le_refl _) _ | exact below_drewN (hb0.alloc (Nat.le_refl _) _) _ | exact (below_drewN hb0 _).alloc (Nat.le_refl _) _) (hb3.mono (by simp)); (try (have hz : w3.heap[wr.heap.size]? = some (.cells #[.bool false, .string ⟨#[]⟩, .slice none 0 0] 24 (0, 0)) := (hb3.block wr.heap.size (by simp)).trans (by first | exact heap_alloc_new _ _ | (have := heap_alloc_new (wr.drewN 0) (.cells #[.bool false, .string ⟨#[]⟩, .slice none 0 0] 24); simpa using this)); have z0 : w3.cell? ⟨wr.heap.size, 0, none⟩ = some (.bool false) := (by rw [Lib.cell_of_heap hz]; rfl); have z1 : w3.cell? ⟨wr.heap.size, 1, none⟩ = some (.string ⟨#[]⟩) := (by rw [Lib.cell_of_heap hz]; rfl); have z2 : w3.cell? ⟨wr.heap.size, 2, none⟩ = some (.slice none 0 0) := (by rw [Lib.cell_of_heap hz]; rfl); have fz := Lib.frozen_of_heap hz)))
          all_goals
            go_wp2_with fail
            go_meet
            first
              | exact ⟨_, a3, cap3, rfl, rfl, rfl, fin_alloc hb4 Ht3.out (by simp) _⟩
              | exact ⟨_, a3, cap3, rfl, rfl, rfl, fin_set hb4 Ht3.out (by simp) hz⟩
        case rest =>
          obtain ⟨b, a, cap, rfl, rfl, rfl, hb5, ⟨k0, k1, k2⟩, ht5⟩ := hcut
          rw [Nat.zero_add] at k1 k2
          rw [← hIB] at ht5
          obtain ⟨he, hle, hps, hpl, hJ, hbw, hHw, _, _⟩ := Hr.out
          have hbw5 := hbw.trans (hb5.mono hbw.size)
          obtain ⟨fn, tmps, assign, body, hy, hR⟩ := HY.out pre ⟨p + n, i, a, cap⟩ W0 wc hJ hbw5 ⟨by omega, ht5.wider hbw.size (Nat.le_refl _)⟩
          simp only [X.encs, Int.natCast_add] at hy
          rw [hIB] at hy
          have HR : Hid _ := hR
          have Ht5 : Hid _ := ht5
          clear hR ht5
          have hpn' : (p : Int) + (n : Int) ≤ 16777216 := by omega
          gi_wp2
          refine RoundIn.mono HR.out ?_
          rintro e W3 (⟨rfl, hJ3, hs3, hk3⟩ | ⟨rfl, hJx3⟩)
          · gi_wp2
            go_roundw
            case rel =>
              have q0 := hk3 0 (.inl rfl)
              have q1 := hk3 sB (.inr (.inl rfl))
              have q2 := hk3 dB (.inr (.inr rfl))
              have s5 := hb5.size
              have hH5 := hHw.below hb5 hHw.pos
              refine ⟨pre ++ [⟨p + n, i, a, cap⟩], W3, p + n, by simp, ⟨?_, lastE_snoc _ _, hpn, by simp; omega, hJ3, Below.refl _ _, ?_, by omega, by omega⟩, ?_, ?_⟩
              · rw [List.map_append]
                exact Im.Eats.snoc he (by rw [← Lib.size_eq]; exact hlt) HC.out
              · obtain ⟨⟨a0, a1, a2⟩, a3, a4, a5⟩ := hH5
                exact ⟨⟨(World.cell?_of_block q0).trans a0, (World.cell?_of_block q0).trans a1, (World.cell?_of_block q0).trans a2⟩, (World.cell?_of_block q0).trans a3, (World.cell?_of_block q0).trans a4, (World.cell?_of_block q0).trans a5⟩
              · exact (World.cell?_of_block q1).trans ((hb5.cell (p := ⟨sB, 0, none⟩) hsw).trans c0)
              · exact (World.cell?_of_block q2).trans ((hb5.cell (p := ⟨dB, 0, none⟩) hdw).trans c1)
            case measure => simp [intOf]; omega
          · gi_wp2
            refine bodyPost_ret (results_none rfl _ _ _) rfl ?_
            refine ⟨⟨_, rfl⟩, .inr ⟨pre ++ [⟨p + n, i, a, cap⟩], W3, ⟨p + n, ?_, lastE_snoc _ _⟩, hJx3, Below.refl _ _⟩⟩
            rw [List.map_append]
            exact Im.Eats.snoc he (by rw [← Lib.size_eq]; exact hlt) HC.out
    · have hlt' : ¬ (p : Int) < (s.size : Int) := by omega
      gi_wp2
      go_end0
      obtain ⟨he, hle, hps, hpl, hJ, hbw, hHw, _, _⟩ := Hr.out
      exact ⟨⟨_, rfl⟩, .inl ⟨pre, ⟨p, he, hle, .inl (by omega)⟩, W0, hJ, hbw⟩⟩
end Go.Proofs.YtpibpdpedjinhaaDoor
