/- Plain mathematics for Round: squeezed bytes, one fewer asked for; how many they are at most; a code with a byte more or fewer. No program is named here. -/
import Derived.Test.YtpibpdpedjinhaaDoorPlain
import Derived.Test.YtpibpdpedjinhaaDoorDec3
namespace Go.Proofs.YtpibpdpedjinhaaDoor

theorem Sq.spread_cut : ∀ (f : Nat) (s : List UInt8) (F : Nat) (most : Int) (out : List UInt8), s.length ≤ f → (Sq.enc f s).length ≤ F → (out.length : Int) ≤ most → most < (out.length : Int) + s.length → Sq.spread F (Sq.enc f s) most out = (out ++ s.take (most.toNat - out.length), false)
  | f, [], F, most, out, _, _, h1, h2 => by simp at h2; omega
  | 0, _ :: _, _, _, _, h, _, _, _ => by simp at h
  | f + 1, x :: r, F, most, out, h, hF, hm, hm2 => by
    obtain ⟨h1, h2, h3, h4, h5⟩ := Sq.plan_is x r
    simp only [List.length_cons] at h hm2
    have hp := Sq.piece_first x r (Sq.enc f ((x :: r).drop (Sq.plan (x :: r)).size))
    have hfl : 1 ≤ (Sq.first (Sq.plan (x :: r)) (x :: r)).length := by unfold Sq.first; split <;> simp
    rw [Sq.enc, if_neg (by simp)] at hF ⊢
    rw [List.length_append] at hF
    obtain ⟨F', rfl⟩ : ∃ F', F = F' + 1 := ⟨F - 1, by omega⟩
    rw [Sq.spread, if_neg (by intro hh; rw [hh] at hp; simp [Sq.piece] at hp), hp]
    simp only
    have hlen : ((x :: r).take (Sq.plan (x :: r)).size).length = (Sq.plan (x :: r)).size := by simp; omega
    have hmax : max most 0 = most := by omega
    rw [hlen, hmax]
    split
    · rename_i hlt
      rw [List.take_take, Nat.min_eq_left (by omega)]
    · rename_i hlt
      rw [List.drop_left' rfl, Sq.spread_cut f _ F' most _ (by simp; omega) (by omega) (by simp; omega) (by simp; omega)]
      rw [List.append_assoc, List.length_append, hlen]
      congr 2
      have e : most.toNat - out.length = (Sq.plan (x :: r)).size + (most.toNat - (out.length + (Sq.plan (x :: r)).size)) := by omega
      rw [e, List.take_add]
theorem Sq.chunks : ∀ (n : Nat) (s : List UInt8), s.length ≤ n → ∃ l, (∀ p, p ∈ l → Sq.fits p) ∧ Sq.joined l = s ∧ Sq.total l ≤ s.length + (s.length + 127) / 128
  | n, [], _ => ⟨[], by simp, rfl, by simp [Sq.total]⟩
  | 0, _ :: _, h => by simp at h
  | n + 1, x :: r, h => by
    obtain ⟨l, h1, h2, h3⟩ := Sq.chunks n ((x :: r).drop 128) (by simp at h ⊢; omega)
    refine ⟨(false, (x :: r).take 128) :: l, ?_, ?_, ?_⟩
    · intro p hp
      rcases List.mem_cons.1 hp with rfl | hp
      · refine ⟨by simp only [List.length_take, List.length_cons]; omega, by simp only [List.length_take, List.length_cons]; omega, fun h => by simp at h⟩
      · exact h1 p hp
    · rw [Sq.joined, h2]; exact List.take_append_drop 128 (x :: r)
    · rw [Sq.total, Sq.pcost, if_neg (by simp)]
      simp only [List.length_drop, List.length_cons, List.length_take] at h3 ⊢
      omega
theorem Sq.plan_most (s : List UInt8) : (Sq.plan s).cost ≤ s.length + (s.length + 127) / 128 := by
  obtain ⟨l, h1, h2, h3⟩ := Sq.chunks s.length s (Nat.le_refl _)
  have := (Sq.plan_least (Sq.joined l).length l (Nat.le_refl _) h1).1
  rw [h2] at this
  omega
namespace Im
/-- the item of a code -/
def dec (s : List UInt8) : Option It := match read body 8 s with
  | some (i, n) => if n = s.length then some i else none
  | none => none
theorem dec_code {i : It} {c : List UInt8} (h : code 8 i = some c) (hl : c.length < 4294967296) : dec c = some i := by
  have := (read_code body (fun _ _ h => h) 8 i c [] h hl).1
  rw [List.append_nil] at this
  unfold dec
  rw [this]
  simp
theorem dec_more {i : It} {c : List UInt8} (h : code 8 i = some c) (hl : c.length < 4294967296) (x : UInt8) : dec (c ++ [x]) = none := by
  have := (read_code body (fun _ _ h => h) 8 i c [x] h hl).1
  unfold dec
  rw [this]
  simp
theorem dec_fewer {i : It} {c : List UInt8} (h : code 8 i = some c) (hl : c.length < 4294967296) : dec (c.take (c.length - 1)) = none := by
  have hc := read_code body (fun _ _ h => h) 8 i c [] h hl
  rw [List.append_nil] at hc
  unfold dec
  cases hr : read body 8 (c.take (c.length - 1)) with
  | none => rfl
  | some x =>
    obtain ⟨i', n⟩ := x
    simp only
    split
    · rename_i hn
      obtain ⟨h1, h2, h3⟩ := read_sound 8 _ i' n hr
      rw [hn, List.take_length] at h3
      have := (read_code body (fun _ _ h => h) 8 i' _ (c.drop (c.length - 1)) h3 (by simp; omega)).1
      rw [List.take_append_drop, hc.1] at this
      simp at this
      omega
    · rfl
theorem dec_sound {s : List UInt8} {i : It} (h : dec s = some i) : code 8 i = some s := by
  unfold dec at h
  cases hr : read body 8 s with
  | none => rw [hr] at h; simp at h
  | some x =>
    obtain ⟨i', n⟩ := x
    rw [hr] at h
    simp only at h
    split at h
    · rename_i hn
      simp at h
      subst h
      have := (read_sound 8 s i' n hr).2.2
      rw [hn, List.take_length] at this
      exact this
    · simp at h
end Im
end Go.Proofs.YtpibpdpedjinhaaDoor
