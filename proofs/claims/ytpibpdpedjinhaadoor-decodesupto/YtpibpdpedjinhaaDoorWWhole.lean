/- The walk of item.whole: all items of a list's body, in a row of their own. -/
import Derived.Test.YtpibpdpedjinhaaDoorWWholeA
namespace Go.Proofs.YtpibpdpedjinhaaDoor
open Go.RowKit Go.Joins Go.Shelf
attribute [local go_sem] Oper.semAt_some

set_option maxRecDepth 100000 in
set_option maxHeartbeats 4000000 in
theorem whole_any (d : Nat) (hf : FirstSaid d) (s : ByteArray) (deep f : Nat) (w : World) (hs : s.size ≤ 16777216) (hdd : deep + d = 9) (hfu : s.size ≤ f) (hH : Heads w) :
    Calls Tryd.prog 55 #[.string s, .int .i64 deep] w fun e w' => GotAll (d + 1) w.heap.size w' e (Im.many (Im.read Im.body d) f s.data.toList) ∧ Below w.heap.size w w' := by
  have h0 := hH.pos
  generalize hR : Im.many (Im.read Im.body d) f s.data.toList = R
  have HR : Hid _ := hR
  clear hR
  refine callsIn_wide.1 (callsIn_of_wp_marks (n := 3) Tryd.func55 rfl trivial ?_ rfl)
  simp only [Tryd.ntmps55, List.size_toArray, List.length_cons, List.length_nil, Nat.reduceAdd, Nat.reduceSub, Array.replicate_succ, Array.replicate_zero, List.push_toArray, List.append_toArray, List.nil_append, List.cons_append]
  gi_wp2
  refine ⟨trivial, ?_⟩
  refine (callsIn_wide.2 (each_any s deep _)).mono ?_
  rintro e w' ⟨rfl, rfl⟩
  gi_wp2
  obtain ⟨V, hV⟩ : ∃ V : World, V = ((((w.alloc (Obj.cells #[Value.slice none 0 0] 22)).alloc (Obj.cells #[Value.int IntKind.i64 0] 3)).alloc (Obj.cells #[Value.string s] 9)).alloc (Obj.cells #[Value.int IntKind.i64 deep] 3)) := ⟨_, rfl⟩
  rw [← hV]
  have hVs : V.heap.size = w.heap.size + 4 := by rw [hV]; simp
  have hVb : Below w.heap.size w V := by rw [hV]; exact ((((Below.refl _ w).alloc (Nat.le_refl _) _).alloc (by simp) _).alloc (by simp; omega) _).alloc (by simp; omega) _
  have v0 : Boxed V w.heap.size 22 (.slice none 0 0) := by rw [hV]; exact (((Boxed.new w _ _).alloc _).alloc _).alloc _
  have v1 : Boxed V (w.heap.size + 1) 3 (.int .i64 0) := by
    rw [hV]
    have := Boxed.new (w.alloc (Obj.cells #[Value.slice none 0 0] 22)) 3 (.int .i64 0)
    rw [World.size_alloc] at this
    exact (this.alloc _).alloc _
  have v2 : V.cell? ⟨w.heap.size + 1 + 1, 0, none⟩ = some (.string s) := by
    rw [hV]
    have := Boxed.new ((w.alloc (Obj.cells #[Value.slice none 0 0] 22)).alloc (Obj.cells #[Value.int IntKind.i64 0] 3)) 9 (.string s)
    rw [World.size_alloc, World.size_alloc] at this
    exact (this.alloc _).cell
  have v3 : V.cell? ⟨w.heap.size + 1 + 1 + 1, 0, none⟩ = some (.int .i64 deep) := by
    rw [hV]
    have := Boxed.new (((w.alloc (Obj.cells #[Value.slice none 0 0] 22)).alloc (Obj.cells #[Value.int IntKind.i64 0] 3)).alloc (Obj.cells #[Value.string s] 9)) 3 (.int .i64 deep)
    rw [World.size_alloc, World.size_alloc, World.size_alloc] at this
    exact this.cell
  clear hV
  refine range_gives (gf := 46) (lb := #[.pointer (some ⟨w.heap.size + 1 + 1, 0, none⟩), .pointer (some ⟨w.heap.size + 1 + 1 + 1, 0, none⟩)]) rfl (enters_of Tryd.func46 (by kernel_rfl) rfl)
    (each_gives d hf s deep (w.heap.size + 1 + 1) (w.heap.size + 1 + 1 + 1) V hs hdd (hH.below hVb h0) (by omega) v2 v3 (by omega) (by omega)) (Below.refl _ _) (by intro k hk; omega) (XY.turn (d + 1)) (fun _ => rfl)
    (WI d w.heap.size w) (fun _ _ _ => False) (by rw [hVs]; exact WI.own d w.heap.size w) (fun _ _ _ _ _ hs _ _ => hs)
    ⟨⟨_, v0, Row.none _ _ _ _⟩, v1, hVb, by omega⟩
    (fun x B => { tmps := #[.string s, .int .i64 deep, undef, undef, .slice none 0 0, .bool false, .pointer (some ⟨w.heap.size, 0, none⟩), .pointer (some ⟨w.heap.size + 1, 0, none⟩), .int .i64 x.e, .pointer (some ⟨B, 0, none⟩), .string s, .int .i64 deep, .func (.func 46) #[] #[.pointer (some ⟨w.heap.size + 1 + 1, 0, none⟩), .pointer (some ⟨w.heap.size + 1 + 1 + 1, 0, none⟩)], .int .i64 x.e, .agg #[.bool x.i.list, .string ⟨x.i.bytes.toArray⟩, .slice x.a x.i.kids.length x.cap], undef, undef, undef, undef, undef, undef, undef, undef, undef, undef, undef, undef], defers := [] })
    (fun x => .cells #[.bool x.i.list, .string ⟨x.i.bytes.toArray⟩, .slice x.a x.i.kids.length x.cap] 24) ?assign ?body ?done ?stop
  case assign =>
    intro l x W K hK
    simp only [X.encs]
    gi_wp2
    exact hK
  case body =>
    rintro l pre x W0 W1 hlt0 ⟨⟨v, b0, hrow⟩, b1, hbw, hsz⟩ hb ⟨hpl, ht⟩
    obtain ⟨xs, L, H, q1, q2, q3, q4, q5⟩ := hrow
    have s1 := hb.size
    have hmx : Tryd.prog.follows .mixedOrders = true := by kernel_rfl
    obtain ⟨va, vcap, rfl⟩ := owns_slice q1
    rw [List.length_map] at *
    obtain ⟨IB, hIB⟩ : ∃ IB : ByteArray, (⟨x.i.bytes.toArray⟩ : ByteArray) = IB := ⟨_, rfl⟩
    rw [hIB] at ht ⊢
    obtain ⟨G, hG⟩ : ∃ G : World, G = W1.alloc (.cells #[.bool x.i.list, .string IB, .slice x.a x.i.kids.length x.cap] 24) := ⟨_, rfl⟩
    rw [← hG]
    have gs : G.heap.size = W1.heap.size + 1 := by rw [hG]; simp
    have gb : Below W1.heap.size W1 G := by rw [hG]; exact (Below.refl _ _).alloc (Nat.le_refl _) _
    have gb0 : Below W0.heap.size W0 G := hb.trans (gb.mono s1)
    obtain ⟨k0, k1, k2⟩ : K3 G W1.heap.size 0 (.bool x.i.list) (.string IB) (.slice x.a x.i.kids.length x.cap) := by rw [hG]; exact K3.alloc3 _ _ _ _ _
    rw [Nat.zero_add] at k1 k2
    clear hG
    have c0 : Boxed G w.heap.size 22 (.slice va pre.length vcap) := (gb0.block _ b0.lt).trans b0
    have c1 : Boxed G (w.heap.size + 1) 3 (.int .i64 (lastE pre)) := (gb0.block _ b1.lt).trans b1
    have hin : ∃ i0, Tryd.prog.info? 24 = some i0 ∧ i0.zero = some (.agg #[.bool false, .string ⟨#[]⟩, .slice none 0 0]) ∧ i0.size = 3 ∧ i0.bytes = 48 := by
      obtain ⟨i0, hi, hz0, hz1, hz2⟩ := info_parts info_item
      exact ⟨i0, hi, hz0, hz1, hz2⟩
    obtain ⟨i0, hi, hz0, hz1, hz2⟩ := hin
    obtain ⟨U, hU⟩ : ∃ U : World, U = (G.alloc (.cells #[.bool false, .string ⟨#[]⟩, .slice none 0 0] 24)).drew := ⟨_, rfl⟩
    have ub : Below G.heap.size G U := by rw [hU]; exact ((Below.refl _ G).alloc (Nat.le_refl _) _).drew
    have us : U.heap.size = G.heap.size + 1 := by rw [hU]; simp
    have u3 : K3 U G.heap.size 0 (.bool false) (.string ⟨#[]⟩) (.slice none 0 0) := by rw [hU]; obtain ⟨t0, t1, t2⟩ := K3.alloc3 G (.bool false) (.string ⟨#[]⟩) (.slice none 0 0) 24; exact ⟨t0, t1, t2⟩
    have qU : U.ownsRow (w.heap.size + 4) 24 3 (.slice va pre.length vcap) pre.length xs := own_below (own_below q1 gb0) ub
    obtain ⟨v', w', happ, hown', hgr, hat⟩ := append_mine (P := Tryd.prog) U (w.heap.size + 4) 22 22 24 i0 _ 3 48 Tryd.underlying22 hi hz0 hz1 hz2 rfl (by decide) _ _ xs qU ⟨G.heap.size, 0, none⟩ 1 1 [.bool false, .string ⟨#[]⟩, .slice none 0 0] (by decide) rfl (by
      intro j u hj
      match j, hj with
      | 0, hj => simp at hj; subst hj; exact u3.1
      | 1, hj => simp at hj; subst hj; exact u3.2.1
      | 2, hj => simp at hj; subst hj; exact u3.2.2) (by intro u hu; simp at hu; rcases hu with rfl | rfl | rfl <;> rfl) (by unfold maxLen; omega) (by omega) (by omega)
    obtain ⟨g, cap', rfl⟩ := owns_shape hown' (by omega)
    rw [hU, gs] at happ
    have m0 := c0.cell
    have m0' := (c0.alloc (.cells #[.bool false, .string ⟨#[]⟩, .slice none 0 0] 24)).cell
    have hgo := own_lt hown' (g := g) rfl
    have hcl := hown'.cells (g := g) rfl
    have hxl := xs_len qU
    have y0 : w'.cell? ⟨g, pre.length * 3, none⟩ = some (.bool false) := by have := hcl (pre.length * 3) (.bool false) (by rw [List.getElem?_append_right (by omega), hxl]; simp); simpa [addr_add'] using this
    have y1 : w'.cell? ⟨g, pre.length * 3 + 1, none⟩ = some (.string ⟨#[]⟩) := by have := hcl (pre.length * 3 + 1) (.string ⟨#[]⟩) (by rw [List.getElem?_append_right (by omega), hxl, show pre.length * 3 + 1 - pre.length * 3 = 1 from by omega]; rfl); simpa [addr_add'] using this
    have y2 : w'.cell? ⟨g, pre.length * 3 + 2, none⟩ = some (.slice none 0 0) := by have := hcl (pre.length * 3 + 2) (.slice none 0 0) (by rw [List.getElem?_append_right (by omega), hxl, show pre.length * 3 + 2 - pre.length * 3 = 2 from by omega]; rfl); simpa [addr_add'] using this
    have hob : ∀ m, Value.ownBlock (.slice va pre.length vcap) = some m → w.heap.size + 4 ≤ m := fun m hm => (own_lt q1 hm).1
    have e0 : Boxed w' w.heap.size 22 (.slice va pre.length vcap) := (hgr.block _ (by omega) (fun e => by have := hob _ e.symm; omega)).trans ((ub.block _ (by omega)).trans c0)
    have e1 : Boxed w' (w.heap.size + 1) 3 (.int .i64 (lastE pre)) := (hgr.block _ (by omega) (fun e => by have := hob _ e.symm; omega)).trans ((ub.block _ (by omega)).trans c1)
    have n0 := e0.cell
    have n1 := e0.frozen
    have n2 := e1.cell
    have n3 := e1.frozen
    have n4 : w'.frozen? ⟨g, pre.length * 3, none⟩ = false := own_frozen hown'
    have n5 : w'.frozen? ⟨g, pre.length * 3 + 1, none⟩ = false := own_frozen hown'
    have n6 : w'.frozen? ⟨g, pre.length * 3 + 2, none⟩ = false := own_frozen hown'
    have hp0 : (0 : Int) ≤ (pre.length : Int) := by omega
    have hp1 : (pre.length : Int) < ((pre.length + 1 : Nat) : Int) := by omega
    have hp2 : (pre.length : Int) < (pre.length : Int) + 1 := by omega
    have hg0 : g ≠ w.heap.size := by omega
    have hg1 : g ≠ w.heap.size + 1 := by omega
    have f0 := c0.frozen
    have Hx : Hid _ := And.intro q1 (And.intro q2 (And.intro q3 (And.intro q4 q5)))
    have Hown' : Hid _ := hown'
    have Hgr : Hid _ := hgr
    have Hat : Hid _ := hat
    have Hub : Hid _ := ub
    have Hht : Hid _ := ht
    have fin : ∀ (a : Act) (F : World), F = ((((w'.setCell ⟨g, pre.length * 3, none⟩ (.bool x.i.list)).setCell ⟨g, pre.length * 3 + 1, none⟩ (.string IB)).setCell ⟨g, pre.length * 3 + 2, none⟩ (.slice x.a x.i.kids.length x.cap)).setCell ⟨w.heap.size, 0, none⟩ (.slice (some ⟨g, 0, none⟩) (pre.length + 1) cap')).setCell ⟨w.heap.size + 1, 0, none⟩ (.int .i64 x.e) →
        rpost V.heap.size (fun k => k = 0 ∨ k = w.heap.size + 1 + 1 ∨ k = w.heap.size + 1 + 1 + 1) (WI d w.heap.size w) (fun _ _ _ => False) (pre ++ [x]) G .normal a F := fun a F hF =>
      whole_end h0 hbw hsz b0 b1 q1 (by rw [List.length_map]; exact q3) (by rw [List.length_map]; exact q4) q5 hb ht gb ub hown' hgr hat hF
    have Fin : Hid _ := fin
    clear fin
    clear q1 q2 q3 q4 q5 hown' hgr hat ub ht u3 qU hU
    gi_wp2
    refine wpIn_region_any (by kernel_rfl) ?_
    change wpAnyIn _ _ _ _ _ _ _ _ _ (World.drew _)
    refine (fun (key : (?T : Prop)) => ?main) ?k
    case main =>
      refine wpAnyIn_ready (rs := [0, 1, 3]) (by kernel_rfl) (by simp) ?_
      refine AllReadyIn.cons rfl (fun K hK => ?_) ?_
      · go_simp
        refine hK _ _ ?_
        clear hK K
        refine wpAnyIn_ready (rs := [1, 2, 3]) (by kernel_rfl) (by simp) ?_
        refine AllReadyIn.cons rfl (fun K hK => ?_) ?_
        · go_simp
          refine hK _ _ ?_
          clear hK K
          refine wpAnyIn_ready (rs := [2, 3]) (by kernel_rfl) (by simp) ?_
          refine AllReadyIn.cons rfl (fun K hK => ?_) ?_
          · go_simp
            refine hK _ _ ?_
            clear hK K
            refine wpAnyIn_ready (rs := [3]) (by kernel_rfl) (by simp) ?_
            refine AllReadyIn.cons rfl (fun K hK => ?_) ?_
            · go_simp
              refine hK _ _ ?_
              clear hK K
              exact key
            exact AllReadyIn.nil
          refine AllReadyIn.cons rfl (fun K hK => ?_) ?_
          · go_simp
            refine hK _ _ ?_
            clear hK K
            refine wpAnyIn_ready (rs := [2]) (by kernel_rfl) (by simp) ?_
            refine AllReadyIn.cons rfl (fun K hK => ?_) ?_
            · go_simp
              refine hK _ _ ?_
              clear hK K
              exact key
            exact AllReadyIn.nil
          exact AllReadyIn.nil
        refine AllReadyIn.cons rfl (fun K hK => ?_) ?_
        · go_simp
          refine hK _ _ ?_
          clear hK K
          refine wpAnyIn_ready (rs := [1, 3]) (by kernel_rfl) (by simp) ?_
          refine AllReadyIn.cons rfl (fun K hK => ?_) ?_
          · go_simp
            refine hK _ _ ?_
            clear hK K
            refine wpAnyIn_ready (rs := [3]) (by kernel_rfl) (by simp) ?_
            refine AllReadyIn.cons rfl (fun K hK => ?_) ?_
            · go_simp
              refine hK _ _ ?_
              clear hK K
              exact key
            exact AllReadyIn.nil
          refine AllReadyIn.cons rfl (fun K hK => ?_) ?_
          · go_simp
            refine hK _ _ ?_
            clear hK K
            refine wpAnyIn_ready (rs := [1]) (by kernel_rfl) (by simp) ?_
            refine AllReadyIn.cons rfl (fun K hK => ?_) ?_
            · go_simp
              refine hK _ _ ?_
              clear hK K
              exact key
            exact AllReadyIn.nil
          exact AllReadyIn.nil
        refine AllReadyIn.cons rfl (fun K hK => ?_) ?_
        · go_simp
          refine hK _ _ ?_
          clear hK K
          refine wpAnyIn_ready (rs := [1, 2]) (by kernel_rfl) (by simp) ?_
          refine AllReadyIn.cons rfl (fun K hK => ?_) ?_
          · go_simp
            refine hK _ _ ?_
            clear hK K
            refine wpAnyIn_ready (rs := [2]) (by kernel_rfl) (by simp) ?_
            refine AllReadyIn.cons rfl (fun K hK => ?_) ?_
            · go_simp
              refine hK _ _ ?_
              clear hK K
              exact key
            exact AllReadyIn.nil
          refine AllReadyIn.cons rfl (fun K hK => ?_) ?_
          · go_simp
            refine hK _ _ ?_
            clear hK K
            refine wpAnyIn_ready (rs := [1]) (by kernel_rfl) (by simp) ?_
            refine AllReadyIn.cons rfl (fun K hK => ?_) ?_
            · go_simp
              refine hK _ _ ?_
              clear hK K
              exact key
            exact AllReadyIn.nil
          exact AllReadyIn.nil
        exact AllReadyIn.nil
      refine AllReadyIn.cons rfl (fun K hK => ?_) ?_
      · go_simp
        refine hK _ _ ?_
        clear hK K
        refine wpAnyIn_ready (rs := [0, 3]) (by kernel_rfl) (by simp) ?_
        refine AllReadyIn.cons rfl (fun K hK => ?_) ?_
        · go_simp
          refine hK _ _ ?_
          clear hK K
          refine wpAnyIn_ready (rs := [2, 3]) (by kernel_rfl) (by simp) ?_
          refine AllReadyIn.cons rfl (fun K hK => ?_) ?_
          · go_simp
            refine hK _ _ ?_
            clear hK K
            refine wpAnyIn_ready (rs := [3]) (by kernel_rfl) (by simp) ?_
            refine AllReadyIn.cons rfl (fun K hK => ?_) ?_
            · go_simp
              refine hK _ _ ?_
              clear hK K
              exact key
            exact AllReadyIn.nil
          refine AllReadyIn.cons rfl (fun K hK => ?_) ?_
          · go_simp
            refine hK _ _ ?_
            clear hK K
            refine wpAnyIn_ready (rs := [2]) (by kernel_rfl) (by simp) ?_
            refine AllReadyIn.cons rfl (fun K hK => ?_) ?_
            · go_simp
              refine hK _ _ ?_
              clear hK K
              exact key
            exact AllReadyIn.nil
          exact AllReadyIn.nil
        refine AllReadyIn.cons rfl (fun K hK => ?_) ?_
        · go_simp
          refine hK _ _ ?_
          clear hK K
          refine wpAnyIn_ready (rs := [0]) (by kernel_rfl) (by simp) ?_
          refine AllReadyIn.cons rfl (fun K hK => ?_) ?_
          · go_simp
            refine hK _ _ ?_
            clear hK K
            refine wpAnyIn_ready (rs := [2]) (by kernel_rfl) (by simp) ?_
            refine AllReadyIn.cons rfl (fun K hK => ?_) ?_
            · go_simp
              refine hK _ _ ?_
              clear hK K
              exact key
            exact AllReadyIn.nil
          exact AllReadyIn.nil
        exact AllReadyIn.nil
      refine AllReadyIn.cons rfl (fun K hK => ?_) ?_
      · go_simp
        refine hK _ _ ?_
        clear hK K
        refine wpAnyIn_ready (rs := [0, 1]) (by kernel_rfl) (by simp) ?_
        refine AllReadyIn.cons rfl (fun K hK => ?_) ?_
        · go_simp
          refine hK _ _ ?_
          clear hK K
          refine wpAnyIn_ready (rs := [1, 2]) (by kernel_rfl) (by simp) ?_
          refine AllReadyIn.cons rfl (fun K hK => ?_) ?_
          · go_simp
            refine hK _ _ ?_
            clear hK K
            refine wpAnyIn_ready (rs := [2]) (by kernel_rfl) (by simp) ?_
            refine AllReadyIn.cons rfl (fun K hK => ?_) ?_
            · go_simp
              refine hK _ _ ?_
              clear hK K
              exact key
            exact AllReadyIn.nil
          refine AllReadyIn.cons rfl (fun K hK => ?_) ?_
          · go_simp
            refine hK _ _ ?_
            clear hK K
            refine wpAnyIn_ready (rs := [1]) (by kernel_rfl) (by simp) ?_
            refine AllReadyIn.cons rfl (fun K hK => ?_) ?_
            · go_simp
              refine hK _ _ ?_
              clear hK K
              exact key
            exact AllReadyIn.nil
          exact AllReadyIn.nil
        refine AllReadyIn.cons rfl (fun K hK => ?_) ?_
        · go_simp
          refine hK _ _ ?_
          clear hK K
          refine wpAnyIn_ready (rs := [0]) (by kernel_rfl) (by simp) ?_
          refine AllReadyIn.cons rfl (fun K hK => ?_) ?_
          · go_simp
            refine hK _ _ ?_
            clear hK K
            refine wpAnyIn_ready (rs := [2]) (by kernel_rfl) (by simp) ?_
            refine AllReadyIn.cons rfl (fun K hK => ?_) ?_
            · go_simp
              refine hK _ _ ?_
              clear hK K
              exact key
            exact AllReadyIn.nil
          exact AllReadyIn.nil
        exact AllReadyIn.nil
      exact AllReadyIn.nil
    case k =>
      refine wpAnyIn_ready (rs := [4]) (by kernel_rfl) (by simp) ?_
      refine AllReadyIn.cons rfl (fun K hK => ?_) AllReadyIn.nil
      refine stepIn_append _ (by rfl) (by rfl) (by rfl) (by rfl) happ ?_
      refine hK _ _ ?_
      clear hK K happ
      refine wpAnyIn_ready (rs := [5, 7]) (by kernel_rfl) (by simp) ?_
      refine AllReadyIn.cons rfl (fun K hK => ?_) ?_
      · go_simp
        refine hK _ _ ?_
        clear hK K
        refine wpAnyIn_ready (rs := [6, 7]) (by kernel_rfl) (by simp) ?_
        refine AllReadyIn.cons rfl (fun K hK => ?_) ?_
        · go_simp
          refine hK _ _ ?_
          clear hK K
          refine wpAnyIn_ready (rs := [7]) (by kernel_rfl) (by simp) ?_
          refine AllReadyIn.cons rfl (fun K hK => ?_) AllReadyIn.nil
          · go_simp
            refine hK _ _ ?_
            clear hK K
            refine wpAnyIn_done (by kernel_rfl) ?_ _
            gi_wp2
            exact Fin.out _ _ (by first | rfl | rw [set3_box _ _ _ _ _ (Ne.symm hg0)])
        refine AllReadyIn.cons rfl (fun K hK => ?_) AllReadyIn.nil
        · go_simp
          refine hK _ _ ?_
          clear hK K
          refine wpAnyIn_ready (rs := [6]) (by kernel_rfl) (by simp) ?_
          refine AllReadyIn.cons rfl (fun K hK => ?_) AllReadyIn.nil
          · go_simp
            refine hK _ _ ?_
            clear hK K
            refine wpAnyIn_done (by kernel_rfl) ?_ _
            gi_wp2
            exact Fin.out _ _ (by first | rfl | rw [set3_box _ _ _ _ _ (Ne.symm hg0)])
      refine AllReadyIn.cons rfl (fun K hK => ?_) AllReadyIn.nil
      · go_simp
        refine hK _ _ ?_
        clear hK K
        refine wpAnyIn_ready (rs := [5]) (by kernel_rfl) (by simp) ?_
        refine AllReadyIn.cons rfl (fun K hK => ?_) AllReadyIn.nil
        · go_simp
          refine hK _ _ ?_
          clear hK K
          refine wpAnyIn_ready (rs := [6]) (by kernel_rfl) (by simp) ?_
          refine AllReadyIn.cons rfl (fun K hK => ?_) AllReadyIn.nil
          · go_simp
            refine hK _ _ ?_
            clear hK K
            refine wpAnyIn_done (by kernel_rfl) ?_ _
            gi_wp2
            exact Fin.out _ _ (by first | rfl | rw [set3_box _ _ _ _ _ (Ne.symm hg0)])
  case done =>
    rintro D xs W0 W hD hlt ⟨p, he, hl, hcase⟩ ⟨⟨v, b0, row⟩, b1, hbw, hsz⟩ hb hK
    have s1 := hb.size
    have c0 : Boxed W w.heap.size 22 v := (hb.block _ b0.lt).trans b0
    have c1 : Boxed W (w.heap.size + 1) 3 (.int .i64 (lastE xs)) := (hb.block _ b1.lt).trans b1
    rw [hl] at c1
    have row1 : Row W (d + 1) (w.heap.size + 4) W.heap.size v (xs.map X.i) := (row.kept (fun k _ k2 => hb.block k k2)).wider (Nat.le_refl _) s1
    have hg2 := grownBy_putObj' W D (.deferred none)
    have row2 : Row (W.putObj D (.deferred none)) (d + 1) (w.heap.size + 4) (W.putObj D (.deferred none)).heap.size v (xs.map X.i) := row1.turn hg2 (fun r e => by cases e; exact ⟨_, hK, rfl⟩)
    have hbf : Below w.heap.size w (W.putObj D (.deferred none)) := (hbw.trans (hb.mono (by omega))).grown hg2 (by omega) (fun k e => by cases e; omega)
    obtain ⟨va, vcap, rfl⟩ : ∃ va vcap, v = .slice va xs.length vcap := by
      obtain ⟨_, _, _, q1, _⟩ := row
      have := owns_slice q1
      simpa using this
    have m0 := c0.cell
    have m1 := c1.cell
    have hfa := Im.read_fair Im.body_body d
    have hfs : s.data.toList.length ≤ f := by rw [← Lib.size_eq]; exact hfu
    have Hrow2 : Hid _ := row2
    clear row1 row2 row
    by_cases hp : p < s.size
    · have hp' : (p : Int) < (s.size : Int) := by omega
      obtain rfl : R = none := by
        rcases hcase with h | ⟨_, h⟩
        · omega
        · exact HR.out.symm.trans (he.stuck hfa f hfs (by rw [← Lib.size_eq]; exact hp) h)
      gi_wp2
      refine ⟨by simp, .inl ⟨_, _, rfl, run_takeDeferred hK, ?_⟩⟩
      exact ⟨.tuple #[.slice none 0 0, .bool false], by simp [results, Tryd.results55, go_sem], rfl, hbf⟩
    · have hp' : ¬ (p : Int) < (s.size : Int) := by omega
      obtain rfl : R = some (xs.map X.i) := HR.out.symm.trans (he.all hfa f hfs (by rw [← Lib.size_eq]; omega))
      gi_wp2
      refine ⟨by simp, .inl ⟨_, _, rfl, run_takeDeferred hK, ?_⟩⟩
      refine ⟨.tuple #[.slice va xs.length vcap, .bool true], by simp [results, Tryd.results55, go_sem], ⟨va, vcap, by simp, ?_⟩, hbf⟩
      have := Row.wider Hrow2.out (lo' := w.heap.size) (by omega) (Nat.le_refl _)
      rw [List.length_map]
      exact this
  case stop =>
    rintro D c pre W0 W _ _ _ h _ _
    exact h.elim
end Go.Proofs.YtpibpdpedjinhaaDoor
