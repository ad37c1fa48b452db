/-
  Walks: takeOut.
-/
import Derived.Test.YtafohkcbonlgkaaDoorDZ
namespace Go.Proofs.YtafohkcbonlgkaaDoor
open Go.RowKit
set_option linter.unusedVariables false
set_option linter.unusedSimpArgs false

theorem quiet_more {w w' : World} {n : Nat} (h : ∃ m, w' = (w.drewN n).drewN m) : ∃ m, w' = w.drewN m := by
  obtain ⟨m, rfl⟩ := h
  exact ⟨n + m, by simp [World.drewN, Nat.add_assoc]⟩

/-- a guess by the upper limbs is right, or one too great -/
theorem guess_near {u2 u1 u0 v1 v0 g p a b N M : Int} (hg : IsGuess u2 u1 u0 v1 v0 g) (hp : 0 < p) (ha : 0 ≤ a) (ha' : a < p) (hb : 0 ≤ b) (hb' : b < p) (hN : N = a + p * ((u2 * 18446744073709551616 + u1) * 18446744073709551616 + u0)) (hM : M = b + p * (v1 * 18446744073709551616 + v0))
    (hu0 : 0 ≤ u0) (hv1 : 1 ≤ v1) (hv0 : 0 ≤ v0) (hU : 0 ≤ (u2 * 18446744073709551616 + u1) * 18446744073709551616 + u0) (hlt : N < M * 18446744073709551616) : N < (g + 1) * M ∧ (g - 1) * M ≤ N := by
  obtain ⟨g0, g1, g2, g3⟩ := hg
  obtain ⟨D, hD⟩ : ∃ D, v1 * 18446744073709551616 + v0 = D := ⟨_, rfl⟩
  obtain ⟨U, hUe⟩ : ∃ U, (u2 * 18446744073709551616 + u1) * 18446744073709551616 + u0 = U := ⟨_, rfl⟩
  rw [hD] at g2 g3 hM; rw [hUe] at g2 g3 hN hU
  have hDq : 18446744073709551616 ≤ D := by omega
  constructor
  · rcases g3 with h | h
    · have e1 : p * (U + 1) ≤ p * ((g + 1) * D) := Int.mul_le_mul_of_nonneg_left (by omega) (by omega)
      have e2 : 0 ≤ (g + 1) * b := Int.mul_nonneg (by omega) hb
      have e3 : (g + 1) * M = (g + 1) * b + p * ((g + 1) * D) := by rw [hM]; grind
      have e4 : p * (U + 1) = p * U + p := by grind
      rw [e3]; omega
    · have : (g + 1) * M = M * 18446744073709551616 := by rw [h]; omega
      omega
  · by_cases hz : g = 0
    · subst hz
      have e1 : 0 ≤ p * D := Int.mul_nonneg (by omega) (by omega)
      have e2 : 0 ≤ p * U := Int.mul_nonneg (by omega) hU
      omega
    · have e1 : (g - 1) * b ≤ (g - 1) * p := Int.mul_le_mul_of_nonneg_left (by omega) (by omega)
      have e2 : (g - 1) * M = (g - 1) * b + p * ((g - 1) * D) := by rw [hM]; grind
      have e3 : (g - 1) * D = g * D - D := by grind
      have e4 : p * ((g - 1) * D + (g - 1)) ≤ p * U := Int.mul_le_mul_of_nonneg_left (by rw [e3]; omega) (by omega)
      have e5 : p * ((g - 1) * D + (g - 1)) = p * ((g - 1) * D) + (g - 1) * p := by grind
      rw [e2]; omega

theorem V_three (q : Int) (L : List Int) (off : Nat) : V q L off 3 = (dig L (off + 2) * q + dig L (off + 1)) * q + dig L off := by
  rw [show (3 : Nat) = 2 + 1 from rfl, V_cons, show (2 : Nat) = 1 + 1 from rfl, V_cons, show (1 : Nat) = 0 + 1 from rfl, V_cons, V_zero]
  simp only [Nat.add_assoc, Nat.reduceAdd]
  grind
theorem V_two (q : Int) (L : List Int) (off : Nat) : V q L off 2 = dig L (off + 1) * q + dig L off := by
  rw [show (2 : Nat) = 1 + 1 from rfl, V_cons, show (1 : Nat) = 0 + 1 from rfl, V_cons, V_zero]
  simp only [Nat.add_assoc, Nat.reduceAdd]
  grind
theorem V_top {q : Int} {L : List Int} {off n : Nat} (h : off + n < L.length) : V q (L.set (off + n) 0) off (n + 1) = V q L off n := by
  rw [V_succ, dig_set _ h, if_pos rfl]
  have : V q (L.set (off + n) 0) off n = V q L off n := V_congr fun j hj => by rw [dig_set _ h, if_neg (by omega)]
  rw [this]; simp

/-- what takeOut leaves -/
def TakenOut (w w' : World) (e : Ending) (g off n : Nat) (L ys : List Int) : Prop :=
  ∃ d L', e = .returned (.int .u64 d) ∧ Blk w' g .u64 67 L' ∧ L'.length = L.length ∧ Wd 18446744073709551616 L' ∧ (∀ j, j < off ∨ off + (n + 1) ≤ j → dig L' j = dig L j) ∧ (0 ≤ d ∧ d < 18446744073709551616) ∧
    V 18446744073709551616 L' off (n + 1) + d * val 18446744073709551616 ys = V 18446744073709551616 L off (n + 1) ∧ V 18446744073709551616 L' off (n + 1) < val 18446744073709551616 ys ∧ Touch g w w'

theorem take_right {L L1 ys : List Int} {off n : Nat} {gd c : Int} (hs : OffSt 18446744073709551616 L ys gd off n c L1) (hn : n = ys.length) (hy : Wd 18446744073709551616 ys) (hl : off + n < L.length) (hup : V 18446744073709551616 L off (n + 1) < (gd + 1) * val 18446744073709551616 ys)
    (hc : ¬ dig L (off + n) < c) : V 18446744073709551616 (L1.set (off + n) 0) off (n + 1) + gd * val 18446744073709551616 ys = V 18446744073709551616 L off (n + 1) ∧ V 18446744073709551616 (L1.set (off + n) 0) off (n + 1) < val 18446744073709551616 ys := by
  have e := hs.eq
  rw [V_top (by rw [hs.len]; exact hl)]
  rw [List.take_of_length_le (by omega)] at e
  rw [V_succ] at hup ⊢
  have a1 := V_nonneg (q := 18446744073709551616) (by decide) hs.wd off n
  have a2 := val_lt (q := 18446744073709551616) (by decide) hy
  rw [← hn] at a2
  rw [Int.add_mul] at hup
  obtain ⟨P, hP⟩ : ∃ P : Int, (18446744073709551616 : Int) ^ n = P := ⟨_, rfl⟩
  obtain ⟨un, hun⟩ : ∃ un, dig L (off + n) = un := ⟨_, rfl⟩
  obtain ⟨gM, hgM⟩ : ∃ gM, gd * val 18446744073709551616 ys = gM := ⟨_, rfl⟩
  rw [hP] at e a2 hup ⊢
  rw [hgM] at e hup ⊢
  rw [hun] at hup hc ⊢
  have hP0 : 0 < P := by rw [← hP]; exact Int.pow_pos (by decide)
  have k : un = c := by
    by_cases h : un = c
    · exact h
    · have h2 : c + 1 ≤ un := by omega
      have h3 : P * (c + 1) ≤ P * un := Int.mul_le_mul_of_nonneg_left h2 (by omega)
      rw [Int.mul_add, Int.mul_comm P c] at h3
      omega
  rw [k] at hup ⊢
  rw [Int.mul_comm P c] at hup ⊢
  constructor <;> omega

theorem take_back {L L1 L2 ys : List Int} {off n : Nat} {gd c c2 : Int} (hs : OffSt 18446744073709551616 L ys gd off n c L1) (hn : n = ys.length) (hy : Wd 18446744073709551616 ys) (hl : off + n < L.length) (hlo : (gd - 1) * val 18446744073709551616 ys ≤ V 18446744073709551616 L off (n + 1))
    (hc : dig L (off + n) < c) (hl2 : L2.length = L1.length) (hw2 : Wd 18446744073709551616 L2) (h2 : V 18446744073709551616 L2 off n + 1 * (c2 * 18446744073709551616 ^ n) = V 18446744073709551616 L1 off n + 1 * val 18446744073709551616 ys) :
    V 18446744073709551616 (L2.set (off + n) 0) off (n + 1) + (gd - 1) * val 18446744073709551616 ys = V 18446744073709551616 L off (n + 1) ∧ V 18446744073709551616 (L2.set (off + n) 0) off (n + 1) < val 18446744073709551616 ys := by
  have e := hs.eq
  rw [V_top (by rw [hl2, hs.len]; exact hl)]
  rw [List.take_of_length_le (by omega)] at e
  rw [V_succ] at hlo ⊢
  have a1 := V_nonneg (q := 18446744073709551616) (by decide) hw2 off n
  have a3 := V_lt (q := 18446744073709551616) (by decide) hw2 off n
  have a4 := V_lt (q := 18446744073709551616) (by decide) hs.wd off n
  have a2 := val_lt (q := 18446744073709551616) (by decide) hy
  rw [← hn] at a2
  rw [Int.sub_mul] at hlo ⊢
  obtain ⟨P, hP⟩ : ∃ P : Int, (18446744073709551616 : Int) ^ n = P := ⟨_, rfl⟩
  obtain ⟨un, hun⟩ : ∃ un, dig L (off + n) = un := ⟨_, rfl⟩
  obtain ⟨gM, hgM⟩ : ∃ gM, gd * val 18446744073709551616 ys = gM := ⟨_, rfl⟩
  rw [hP] at e a2 a3 a4 hlo h2 ⊢
  rw [hgM] at e hlo ⊢
  rw [hun] at hlo hc ⊢
  have hP0 : 0 < P := by rw [← hP]; exact Int.pow_pos (by decide)
  have h3 : P * un + P ≤ c * P := by
    have : P * (un + 1) ≤ P * c := Int.mul_le_mul_of_nonneg_left (by omega) (by omega)
    rw [Int.mul_add, Int.mul_one, Int.mul_comm P c] at this; exact this
  obtain ⟨t, ht⟩ : ∃ t, c2 + un - c = t := ⟨_, rfl⟩
  have e4 : c2 * P + P * un - c * P = P * t := by rw [← ht]; grind
  have k : t = 0 := by
    by_cases h : t = 0
    · exact h
    · rcases Int.lt_or_gt_of_ne h with h5 | h5
      · have : P * t ≤ P * (-1) := Int.mul_le_mul_of_nonneg_left (by omega) (by omega)
        omega
      · have : P * 1 ≤ P * t := Int.mul_le_mul_of_nonneg_left (by omega) (by omega)
        omega
  rw [k, Int.mul_zero] at e4
  constructor <;> omega

end Go.Proofs.YtafohkcbonlgkaaDoor
