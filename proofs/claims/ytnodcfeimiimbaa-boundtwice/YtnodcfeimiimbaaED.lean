/-
  EA, EB, EC, ED.
-/
import Derived.Test.YtnodcfeimiimbaaDZ
import Derived.Test.YtnodcfeimiimbaaWR

/- Walks: takeOut. -/
namespace Go.Proofs.Ytnodcfeimiimbaa
open Go.RowKit
set_option linter.unusedVariables false
set_option linter.unusedSimpArgs false

theorem quiet_more {w w' : World} {n : Nat} (h : ∃ m, w' = (w.drewN n).drewN m) : ∃ m, w' = w.drewN m := by
  obtain ⟨m, rfl⟩ := h
  exact ⟨n + m, by simp [World.drewN, Nat.add_assoc]⟩

/-- a guess by the upper limbs is right, or one too great -/
theorem guess_near {u2 u1 u0 v1 v0 g p a b N M : Int} (hg : IsGuess u2 u1 u0 v1 v0 g) (hp : 0 < p) (ha : 0 ≤ a) (ha' : a < p) (hb : 0 ≤ b) (hb' : b < p) (hN : N = a + p * ((u2 * 18446744073709551616 + u1) * 18446744073709551616 + u0)) (hM : M = b + p * (v1 * 18446744073709551616 + v0))
    (hu0 : 0 ≤ u0) (hv1 : 1 ≤ v1) (hv0 : 0 ≤ v0) (hU : 0 ≤ (u2 * 18446744073709551616 + u1) * 18446744073709551616 + u0) (hlt : N < M * 18446744073709551616) : N < (g + 1) * M ∧ (g - 1) * M ≤ N := by
  obtain ⟨g0, g1, g2, g3⟩ := hg
  obtain ⟨D, hD⟩ : ∃ D, v1 * 18446744073709551616 + v0 = D := ⟨_, rfl⟩
  obtain ⟨U, hUe⟩ : ∃ U, (u2 * 18446744073709551616 + u1) * 18446744073709551616 + u0 = U := ⟨_, rfl⟩
  rw [hD] at g2 g3 hM; rw [hUe] at g2 g3 hN hU
  have hDq : 18446744073709551616 ≤ D := by omega
  constructor
  · rcases g3 with h | h
    · have e1 : p * (U + 1) ≤ p * ((g + 1) * D) := Int.mul_le_mul_of_nonneg_left (by omega) (by omega)
      have e2 : 0 ≤ (g + 1) * b := Int.mul_nonneg (by omega) hb
      have e3 : (g + 1) * M = (g + 1) * b + p * ((g + 1) * D) := by rw [hM]; grind
      have e4 : p * (U + 1) = p * U + p := by grind
      rw [e3]; omega
    · have : (g + 1) * M = M * 18446744073709551616 := by rw [h]; omega
      omega
  · by_cases hz : g = 0
    · subst hz
      have e1 : 0 ≤ p * D := Int.mul_nonneg (by omega) (by omega)
      have e2 : 0 ≤ p * U := Int.mul_nonneg (by omega) hU
      omega
    · have e1 : (g - 1) * b ≤ (g - 1) * p := Int.mul_le_mul_of_nonneg_left (by omega) (by omega)
      have e2 : (g - 1) * M = (g - 1) * b + p * ((g - 1) * D) := by rw [hM]; grind
      have e3 : (g - 1) * D = g * D - D := by grind
      have e4 : p * ((g - 1) * D + (g - 1)) ≤ p * U := Int.mul_le_mul_of_nonneg_left (by rw [e3]; omega) (by omega)
      have e5 : p * ((g - 1) * D + (g - 1)) = p * ((g - 1) * D) + (g - 1) * p := by grind
      rw [e2]; omega

theorem V_three (q : Int) (L : List Int) (off : Nat) : V q L off 3 = (dig L (off + 2) * q + dig L (off + 1)) * q + dig L off := by
  rw [show (3 : Nat) = 2 + 1 from rfl, V_cons, show (2 : Nat) = 1 + 1 from rfl, V_cons, show (1 : Nat) = 0 + 1 from rfl, V_cons, V_zero]
  simp only [Nat.add_assoc, Nat.reduceAdd]
  grind
theorem V_two (q : Int) (L : List Int) (off : Nat) : V q L off 2 = dig L (off + 1) * q + dig L off := by
  rw [show (2 : Nat) = 1 + 1 from rfl, V_cons, show (1 : Nat) = 0 + 1 from rfl, V_cons, V_zero]
  simp only [Nat.add_assoc, Nat.reduceAdd]
  grind
theorem V_top {q : Int} {L : List Int} {off n : Nat} (h : off + n < L.length) : V q (L.set (off + n) 0) off (n + 1) = V q L off n := by
  rw [V_succ, dig_set _ h, if_pos rfl]
  have : V q (L.set (off + n) 0) off n = V q L off n := V_congr fun j hj => by rw [dig_set _ h, if_neg (by omega)]
  rw [this]; simp

/-- what takeOut leaves -/
def TakenOut (w w' : World) (e : Ending) (g off n : Nat) (L ys : List Int) : Prop :=
  ∃ d L', e = .returned (.int .u64 d) ∧ Blk w' g .u64 51 L' ∧ L'.length = L.length ∧ Wd 18446744073709551616 L' ∧ (∀ j, j < off ∨ off + (n + 1) ≤ j → dig L' j = dig L j) ∧ (0 ≤ d ∧ d < 18446744073709551616) ∧
    V 18446744073709551616 L' off (n + 1) + d * val 18446744073709551616 ys = V 18446744073709551616 L off (n + 1) ∧ V 18446744073709551616 L' off (n + 1) < val 18446744073709551616 ys ∧ Touch g w w'

theorem take_right {L L1 ys : List Int} {off n : Nat} {gd c : Int} (hs : OffSt 18446744073709551616 L ys gd off n c L1) (hn : n = ys.length) (hy : Wd 18446744073709551616 ys) (hl : off + n < L.length) (hup : V 18446744073709551616 L off (n + 1) < (gd + 1) * val 18446744073709551616 ys)
    (hc : ¬ dig L (off + n) < c) : V 18446744073709551616 (L1.set (off + n) 0) off (n + 1) + gd * val 18446744073709551616 ys = V 18446744073709551616 L off (n + 1) ∧ V 18446744073709551616 (L1.set (off + n) 0) off (n + 1) < val 18446744073709551616 ys := by
  have e := hs.eq
  rw [V_top (by rw [hs.len]; exact hl)]
  rw [List.take_of_length_le (by omega)] at e
  rw [V_succ] at hup ⊢
  have a1 := V_nonneg (q := 18446744073709551616) (by decide) hs.wd off n
  have a2 := val_lt (q := 18446744073709551616) (by decide) hy
  rw [← hn] at a2
  rw [Int.add_mul] at hup
  obtain ⟨P, hP⟩ : ∃ P : Int, (18446744073709551616 : Int) ^ n = P := ⟨_, rfl⟩
  obtain ⟨un, hun⟩ : ∃ un, dig L (off + n) = un := ⟨_, rfl⟩
  obtain ⟨gM, hgM⟩ : ∃ gM, gd * val 18446744073709551616 ys = gM := ⟨_, rfl⟩
  rw [hP] at e a2 hup ⊢
  rw [hgM] at e hup ⊢
  rw [hun] at hup hc ⊢
  have hP0 : 0 < P := by rw [← hP]; exact Int.pow_pos (by decide)
  have k : un = c := by
    by_cases h : un = c
    · exact h
    · have h2 : c + 1 ≤ un := by omega
      have h3 : P * (c + 1) ≤ P * un := Int.mul_le_mul_of_nonneg_left h2 (by omega)
      rw [Int.mul_add, Int.mul_comm P c] at h3
      omega
  rw [k] at hup ⊢
  rw [Int.mul_comm P c] at hup ⊢
  constructor <;> omega

theorem take_back {L L1 L2 ys : List Int} {off n : Nat} {gd c c2 : Int} (hs : OffSt 18446744073709551616 L ys gd off n c L1) (hn : n = ys.length) (hy : Wd 18446744073709551616 ys) (hl : off + n < L.length) (hlo : (gd - 1) * val 18446744073709551616 ys ≤ V 18446744073709551616 L off (n + 1))
    (hc : dig L (off + n) < c) (hl2 : L2.length = L1.length) (hw2 : Wd 18446744073709551616 L2) (h2 : V 18446744073709551616 L2 off n + 1 * (c2 * 18446744073709551616 ^ n) = V 18446744073709551616 L1 off n + 1 * val 18446744073709551616 ys) :
    V 18446744073709551616 (L2.set (off + n) 0) off (n + 1) + (gd - 1) * val 18446744073709551616 ys = V 18446744073709551616 L off (n + 1) ∧ V 18446744073709551616 (L2.set (off + n) 0) off (n + 1) < val 18446744073709551616 ys := by
  have e := hs.eq
  rw [V_top (by rw [hl2, hs.len]; exact hl)]
  rw [List.take_of_length_le (by omega)] at e
  rw [V_succ] at hlo ⊢
  have a1 := V_nonneg (q := 18446744073709551616) (by decide) hw2 off n
  have a3 := V_lt (q := 18446744073709551616) (by decide) hw2 off n
  have a4 := V_lt (q := 18446744073709551616) (by decide) hs.wd off n
  have a2 := val_lt (q := 18446744073709551616) (by decide) hy
  rw [← hn] at a2
  rw [Int.sub_mul] at hlo ⊢
  obtain ⟨P, hP⟩ : ∃ P : Int, (18446744073709551616 : Int) ^ n = P := ⟨_, rfl⟩
  obtain ⟨un, hun⟩ : ∃ un, dig L (off + n) = un := ⟨_, rfl⟩
  obtain ⟨gM, hgM⟩ : ∃ gM, gd * val 18446744073709551616 ys = gM := ⟨_, rfl⟩
  rw [hP] at e a2 a3 a4 hlo h2 ⊢
  rw [hgM] at e hlo ⊢
  rw [hun] at hlo hc ⊢
  have hP0 : 0 < P := by rw [← hP]; exact Int.pow_pos (by decide)
  have h3 : P * un + P ≤ c * P := by
    have : P * (un + 1) ≤ P * c := Int.mul_le_mul_of_nonneg_left (by omega) (by omega)
    rw [Int.mul_add, Int.mul_one, Int.mul_comm P c] at this; exact this
  obtain ⟨t, ht⟩ : ∃ t, c2 + un - c = t := ⟨_, rfl⟩
  have e4 : c2 * P + P * un - c * P = P * t := by rw [← ht]; grind
  have k : t = 0 := by
    by_cases h : t = 0
    · exact h
    · rcases Int.lt_or_gt_of_ne h with h5 | h5
      · have : P * t ≤ P * (-1) := Int.mul_le_mul_of_nonneg_left (by omega) (by omega)
        omega
      · have : P * 1 ≤ P * t := Int.mul_le_mul_of_nonneg_left (by omega) (by omega)
        omega
  rw [k, Int.mul_zero] at e4
  constructor <;> omega

end Go.Proofs.Ytnodcfeimiimbaa

/- Walks: takeOut. -/
namespace Go.Proofs.Ytnodcfeimiimbaa
open Go.RowKit
set_option linter.unusedVariables false
set_option linter.unusedSimpArgs false

end Go.Proofs.Ytnodcfeimiimbaa

/- Plain mathematics: Knuth's division, limb by limb. -/
namespace Go.Proofs.Ytnodcfeimiimbaa
open Go.RowKit
set_option linter.unusedVariables false
set_option linter.unusedSimpArgs false

/-- the quotient's digits from place k on lie in Lq; what is left of X lies in Lu, below k + n -/
structure DivSt (q M X : Int) (n m k : Nat) (nu : Nat) (Lu Lq : List Int) : Prop where
  lu : Lu.length = nu
  lq : Lq.length = m
  wu : Wd q Lu
  wq : Wd q Lq
  eq : V q Lq k (m - k) * (q ^ k * M) + V q Lu 0 (k + n) = X
  lt : V q Lu 0 (k + n) < M * q ^ k

theorem DivSt.pre {q M X : Int} {n m k nu : Nat} {Lu Lq : List Int} (hq : 1 < q) (h : DivSt q M X n m (k + 1) nu Lu Lq) : V q Lu k (n + 1) < M * q := by
  have e := h.lt
  rw [show k + 1 + n = k + (n + 1) by omega, V_split, Int.pow_succ, Nat.zero_add] at e
  have h0 := V_nonneg (q := q) (by omega) h.wu 0 k
  have hp : 0 < q ^ k := Int.pow_pos (by omega)
  have e2 : q ^ k * V q Lu k (n + 1) < q ^ k * (M * q) := by
    have : M * (q ^ k * q) = q ^ k * (M * q) := by grind
    omega
  exact Int.lt_of_mul_lt_mul_left e2 (by omega)

theorem DivSt.step {q M X : Int} {n m k nu : Nat} {Lu Lq L' : List Int} {d : Int} (hq : 1 < q) (h : DivSt q M X n m (k + 1) nu Lu Lq) (hk : k < m) (hM : M < q ^ n) (hl : L'.length = Lu.length) (hw : Wd q L')
    (hout : ∀ j, j < k ∨ k + (n + 1) ≤ j → dig L' j = dig Lu j) (hd : 0 ≤ d ∧ d < q) (he : V q L' k (n + 1) + d * M = V q Lu k (n + 1)) (hlt : V q L' k (n + 1) < M) : DivSt q M X n m k nu L' (Lq.set k d) := by
  have hlk : k < Lq.length := by rw [h.lq]; exact hk
  have e0 : V q L' 0 k = V q Lu 0 k := V_congr fun j hj => by rw [hout _ (by omega)]
  have hp : 0 < q ^ k := Int.pow_pos (by omega)
  have hz : V q L' k (n + 1) = V q L' k n := by
    have a1 := V_nonneg (q := q) (by omega) hw k n
    have a2 := hw.dig (by omega) (k + n)
    rw [V_succ] at hlt ⊢
    by_cases h0 : dig L' (k + n) = 0
    · rw [h0]; simp
    · have : q ^ n * 1 ≤ q ^ n * dig L' (k + n) := Int.mul_le_mul_of_nonneg_left (by omega) (Int.le_of_lt (Int.pow_pos (by omega)))
      omega
  refine ⟨by rw [hl, h.lu], by simp [h.lq], hw, h.wq.set _ hd, ?_, ?_⟩
  · rw [show m - k = (m - (k + 1)) + 1 by omega, V_cons, dig_set _ hlk, if_pos rfl]
    have e1 : V q (Lq.set k d) (k + 1) (m - (k + 1)) = V q Lq (k + 1) (m - (k + 1)) := V_congr fun j hj => by rw [dig_set _ hlk, if_neg (by omega)]
    have e2 := h.eq
    rw [show k + 1 + n = k + (n + 1) by omega, V_split, Nat.zero_add, Int.pow_succ, ← he] at e2
    rw [e1, V_split, Nat.zero_add, e0, ← hz]
    grind
  · rw [V_split, Nat.zero_add, ← hz]
    have b1 := V_lt hq hw 0 k
    have : q ^ k * (V q L' k (n + 1) + 1) ≤ q ^ k * M := Int.mul_le_mul_of_nonneg_left (by omega) (by omega)
    rw [Int.mul_add, Int.mul_one] at this
    rw [Int.mul_comm M]; omega

/-- both numbers times P divided: the quotient, and what is left, P times -/
theorem div_last {A B P Q R r u : Int} (hP : 0 < P) (h1 : Q * (P * B) + u = P * A) (h2 : R * P + r = u) (hr : 0 ≤ r) (hr' : r < P) (hu : u < P * B) (hR : 0 ≤ R) : Q * B + R = A ∧ R < B := by
  have e : r = P * (A - Q * B - R) := by
    have : P * (A - Q * B - R) = P * A - Q * (P * B) - R * P := by grind
    omega
  have hz : r = 0 := by
    obtain ⟨T, hT⟩ : ∃ T, A - Q * B - R = T := ⟨_, rfl⟩
    rw [hT] at e
    by_cases h : T = 0
    · rw [e, h]; simp
    · rcases Int.lt_or_gt_of_ne h with h5 | h5
      · have : P * T ≤ P * (-1) := Int.mul_le_mul_of_nonneg_left (by omega) (by omega)
        omega
      · have : P * 1 ≤ P * T := Int.mul_le_mul_of_nonneg_left (by omega) (by omega)
        omega
  have e2 : P * (Q * B + R) = P * A := by
    have : P * (Q * B + R) = Q * (P * B) + R * P := by grind
    omega
  refine ⟨Int.eq_of_mul_eq_mul_left (by omega) e2, ?_⟩
  have e3 : P * R < P * B := by rw [Int.mul_comm P R]; omega
  exact Int.lt_of_mul_lt_mul_left e3 (by omega)

theorem nat_div_of {A B : Nat} {Q R : Int} (h : Q * B + R = A) (hR : 0 ≤ R) (hlt : R < B) : Q = ((A / B : Nat) : Int) ∧ R = ((A % B : Nat) : Int) := by
  have := quot_unique (D := (B : Int)) (N := (A : Int)) (q := Q) (by omega) (by omega) (by rw [Int.add_mul]; omega)
  rw [Int.natCast_ediv, Int.natCast_emod]
  exact ⟨this.1, by rw [← this.2]; omega⟩

/-- a number shifted up so that its top limb's top bit is set -/
theorem norm_top {ys Lv : List Int} {n : Nat} {c P z : Int} (hn : n + 1 = ys.length) (hy : Wd 18446744073709551616 ys) (hz : dig ys n = z) (hv : Wd 18446744073709551616 Lv) (hP : 0 < P) (h1 : 9223372036854775808 ≤ z * P) (h2 : (z + 1) * P ≤ 18446744073709551616) (hc : 0 ≤ c)
    (he : V 18446744073709551616 Lv 0 (n + 1) + c * 18446744073709551616 ^ (n + 1) = P * val 18446744073709551616 ys) : c = 0 ∧ 9223372036854775808 ≤ dig Lv n := by
  have a0 := V_nonneg (q := 18446744073709551616) (by decide) hy 0 n
  have a1 := V_lt (q := 18446744073709551616) (by decide) hy 0 n
  have e0 : val 18446744073709551616 ys = V 18446744073709551616 ys 0 n + 18446744073709551616 ^ n * z := by rw [← V_all _ hn, V_succ, Nat.zero_add, hz]
  have b0 := V_nonneg (q := 18446744073709551616) (by decide) hv 0 n
  have b1 := V_lt (q := 18446744073709551616) (by decide) hv 0 n
  have b2 := hv.dig (by decide) n
  rw [V_succ, Nat.zero_add, Int.pow_succ, e0] at he
  obtain ⟨p, hp⟩ : ∃ p : Int, (18446744073709551616 : Int) ^ n = p := ⟨_, rfl⟩
  rw [hp] at a1 b1 he
  have hp0 : 0 < p := by rw [← hp]; exact Int.pow_pos (by decide)
  obtain ⟨a, ha⟩ : ∃ a, V 18446744073709551616 ys 0 n = a := ⟨_, rfl⟩
  obtain ⟨b, hb⟩ : ∃ b, V 18446744073709551616 Lv 0 n = b := ⟨_, rfl⟩
  obtain ⟨t, ht⟩ : ∃ t, dig Lv n = t := ⟨_, rfl⟩
  rw [ha] at a0 a1 he; rw [hb] at b0 b1 he; rw [ht] at b2 he ⊢
  have f1 : P * (a + p * z) < p * 18446744073709551616 := by
    have g1 : P * (a + p * z) < P * (p * (z + 1)) := Int.mul_lt_mul_of_pos_left (by rw [Int.mul_add]; omega) hP
    have g2 : p * ((z + 1) * P) ≤ p * 18446744073709551616 := Int.mul_le_mul_of_nonneg_left h2 (by omega)
    have g3 : P * (p * (z + 1)) = p * ((z + 1) * P) := by grind
    omega
  have f2 : p * 9223372036854775808 ≤ P * (a + p * z) := by
    have g1 : p * 9223372036854775808 ≤ p * (z * P) := Int.mul_le_mul_of_nonneg_left h1 (by omega)
    have g2 : P * (a + p * z) = P * a + p * (z * P) := by grind
    have g3 : 0 ≤ P * a := Int.mul_nonneg (by omega) a0
    omega
  have hpt : 0 ≤ p * t := Int.mul_nonneg (by omega) b2.1
  have hc0 : c = 0 := by
    by_cases h : c = 0
    · exact h
    · have : 1 * (p * 18446744073709551616) ≤ c * (p * 18446744073709551616) := Int.mul_le_mul_of_nonneg_right (by omega) (by omega)
      omega
  refine ⟨hc0, ?_⟩
  rw [hc0, Int.zero_mul] at he
  by_cases h : 9223372036854775808 ≤ t
  · exact h
  · have : p * (t + 1) ≤ p * 9223372036854775808 := Int.mul_le_mul_of_nonneg_left (by omega) (by omega)
    rw [Int.mul_add] at this; omega

/-- the first step may be taken: the quotient has its room -/
theorem div_room {xs ys : List Int} {P : Int} (hx : Wd 18446744073709551616 xs) (hy : Wd 18446744073709551616 ys) (hc : Can ys) (hne : ys ≠ []) {m : Nat} (hm : xs.length + 1 = m + ys.length) (hP : 0 < P) :
    P * val 18446744073709551616 xs < P * val 18446744073709551616 ys * 18446744073709551616 ^ m := by
  have a := val_lt (q := 18446744073709551616) (by decide) hx
  have b := val_ge (q := 18446744073709551616) (by decide) hy hc hne
  have hl : 0 < ys.length := List.length_pos_iff.2 hne
  have e : (18446744073709551616 : Int) ^ xs.length = 18446744073709551616 ^ (ys.length - 1) * 18446744073709551616 ^ m := by
    rw [← Int.pow_add]; congr 1; omega
  have h1 : (18446744073709551616 : Int) ^ (ys.length - 1) * 18446744073709551616 ^ m ≤ val 18446744073709551616 ys * 18446744073709551616 ^ m := Int.mul_le_mul_of_nonneg_right b (Int.le_of_lt (Int.pow_pos (by decide)))
  have h2 : val 18446744073709551616 xs < val 18446744073709551616 ys * 18446744073709551616 ^ m := by rw [e] at a; omega
  rw [Int.mul_assoc]
  exact Int.mul_lt_mul_of_pos_left h2 hP
end Go.Proofs.Ytnodcfeimiimbaa

/- Walks: divideLong. -/
namespace Go.Proofs.Ytnodcfeimiimbaa
open Go.RowKit
set_option linter.unusedVariables false
set_option linter.unusedSimpArgs false

/-- two slices lie in blocks of their own -/
def Parted (ao bo : Option Addr) : Prop := ∀ p q : Addr, ao = some p → bo = some q → p.block ≠ q.block
theorem Parted.none_ {bo : Option Addr} : Parted none bo := fun p q h => by cases h
theorem Parted.symm {ao bo : Option Addr} (h : Parted ao bo) : Parted bo ao := fun p q hp hq e => h q p hq hp e.symm
theorem Parted.trims {ao bo ao' bo' : Option Addr} {c c' d d' k l : Nat} (h : Parted ao bo) (ha : ao' = ao ∧ c' = c ∨ ao' = none ∧ k = 0) (hb : bo' = bo ∧ d' = d ∨ bo' = none ∧ l = 0) : Parted ao' bo' := by
  intro p q hp hq
  rcases ha with ⟨rfl, _⟩ | ⟨rfl, _⟩
  · rcases hb with ⟨rfl, _⟩ | ⟨rfl, _⟩
    · exact h p q hp hq
    · cases hq
  · cases hp
/-- the elder one lay there when the younger one was made -/
theorem Parted.made {B B' : Nat} {w w' : World} {t t' : TypeId} {ao bo : Option Addr} {l c l' c' : Nat} {zs ys : List Int} (h : Own B w .u64 t ao l c zs) (k : Own B' w' .u64 t' bo l' c' ys) (hs : w.heap.size ≤ B') : Parted ao bo := by
  intro p q hp hq
  rcases h with ⟨h1, _⟩ | ⟨g, off, cur, h1, h2, h3, _⟩
  · rw [h1] at hp; cases hp
  · rcases k with ⟨k1, _⟩ | ⟨g', off', cur', k1, k2, _⟩
    · rw [k1] at hq; cases hq
    · rw [h1] at hp; rw [k1] at hq
      cases hp; cases hq
      have := heap_lt h3
      show g ≠ g'
      omega
/-- two new numbers come back -/
def TwoNat (w w' : World) (e : Ending) (x y : Nat) : Prop :=
  ∃ ao la ca bo lb cb, e = .returned (.tuple #[.slice ao la ca, .slice bo lb cb]) ∧ Own w.heap.size w' .u64 51 ao la ca (mag x) ∧ Own w.heap.size w' .u64 51 bo lb cb (mag y) ∧ Below w.heap.size w w' ∧ Parted ao bo

/-- a number's top limb, shifted up till its top bit is set -/
theorem lead_ex (z : Int) (h0 : 0 < z) (h1 : z < 18446744073709551616) : ∃ s : Nat, 64 - (Lib.bitLen z.toNat : Int) = (s : Int) ∧ s < 64 ∧ 9223372036854775808 ≤ z * 2 ^ s ∧ (z + 1) * 2 ^ s ≤ 18446744073709551616 := by
  obtain ⟨z, rfl⟩ := Int.eq_ofNat_of_zero_le (Int.le_of_lt h0)
  obtain ⟨b1, b2, b3⟩ := bitLen_bounds (y := z) (by omega) (by omega)
  have b4 : Lib.bitLen z ≤ 64 := Lib.bitLen_le z 64 (by omega) (by omega)
  obtain ⟨l, hl⟩ : ∃ l, Lib.bitLen z = l := ⟨_, rfl⟩
  rw [hl] at b1 b2 b3 b4
  have e1 : 2 ^ (l - 1) * 2 ^ (64 - l) = 9223372036854775808 := by rw [← Nat.pow_add, show l - 1 + (64 - l) = 63 by omega]
  have e2 : 2 ^ l * 2 ^ (64 - l) = 18446744073709551616 := by rw [← Nat.pow_add, show l + (64 - l) = 64 by omega]
  have f1 := Nat.mul_le_mul_right (2 ^ (64 - l)) b2
  have f2 := Nat.mul_le_mul_right (2 ^ (64 - l)) (show z + 1 ≤ 2 ^ l from b3)
  rw [e1] at f1; rw [e2] at f2
  refine ⟨64 - l, by rw [Int.toNat_natCast, hl]; omega, by omega, ?_, ?_⟩
  · have : ((z * 2 ^ (64 - l) : Nat) : Int) = (z : Int) * 2 ^ (64 - l) := by rw [Int.natCast_mul, Int.natCast_pow]; rfl
    rw [← this]; omega
  · have : (((z + 1) * 2 ^ (64 - l) : Nat) : Int) = ((z : Int) + 1) * 2 ^ (64 - l) := by rw [Int.natCast_mul, Int.natCast_pow]; rfl
    rw [← this]; omega

theorem below_less {B B' : Nat} {w w' : World} (h : Below B w w') (hB : B' ≤ B) : Below B' w w' := ⟨h.os, h.tape, h.output, h.size, fun k hk => h.block k (by omega)⟩
theorem divlong_a {w w2 w3 : World} {g j n : Nat} {v : Int} {L1 : List Int} (hb : Blk w2 g .u64 51 L1) (hB : Below g w w2)
    (h : w3.ownsRow 0 51 1 (.slice (some ⟨(w2.setCell ⟨g, j, none⟩ (.int .u64 v)).heap.size, 0, none⟩) n n) n (madeCells (Value.int .u64 0).cells (n * 1)).toList) (hg : (w2.setCell ⟨g, j, none⟩ (.int .u64 v)).grownBy w3 none) :
    Hid (Blk w3 g .u64 51 (L1.set j v) ∧ Blk w3 w2.heap.size .u64 51 (List.replicate n 0) ∧ Below g w w3) := by
  have h1 := made_blk h
  have h2 := grown_below hg
  have h3 : Touch g w2 (w2.setCell ⟨g, j, none⟩ (.int .u64 v)) := (Touch.refl _ _).set _ _
  have h4 := hb.lt
  refine ⟨(hb.set j v).all h2, by rw [h3.size] at h1; exact h1, (hB.trans (h3.below (Nat.le_refl _))).trans (below_less h2 (by rw [h3.size]; omega))⟩
theorem divlong_b {w w' : World} {g g' : Nat} {L : List Int} (hb : Blk w g .u64 51 L) (ht : Touch g' w w') (hne : g ≠ g') : Blk w' g .u64 51 L := by
  unfold Blk at *; rw [ht.block g hne]; exact hb

theorem trim_own {B : Nat} {w : World} {ao ao' : Option Addr} {n k cap cap' : Nat} {L : List Int} {N : Nat} (hk : k ≤ n) (h : RowAt w .u64 ao' k cap' (L.take k) ∧ Can (L.take k) ∧ (∀ q, val q (L.take k) = val q L) ∧ (ao' = ao ∧ cap' = cap ∨ ao' = none ∧ k = 0)) (ho : Own B w .u64 51 ao n cap L) (hW : Wd 18446744073709551616 L) (hv : val 18446744073709551616 L = N) : Own B w .u64 51 ao' k cap' (mag N) := by
  obtain ⟨hr, hc, hval, hor⟩ := h
  have hm : mag N = L.take k := mag_of (hW.take k) hc (by rw [hval, hv])
  rw [hm]
  rcases hor with ⟨rfl, rfl⟩ | ⟨rfl, rfl⟩
  · exact ho.take hk
  · exact Or.inl ⟨rfl, rfl, hr.hnil rfl, by simp⟩
theorem divlong_end {a b n m nu : Nat} {P r : Int} {Lu Lq L2 L3 L0 : List Int} (h : DivSt 18446744073709551616 (val 18446744073709551616 L2) (P * (a : Int)) (n + 2) m 0 nu Lu Lq) (hM : val 18446744073709551616 L2 = P * (b : Int)) (hP : 0 < P) (hl0 : L0.length = n + 2)
    (hq : QuoSt 18446744073709551616 L0 (Lu.take (n + 2)) P 0 (n + 2) 0 r L3) : val 18446744073709551616 Lq = ((a / b : Nat) : Int) ∧ val 18446744073709551616 L3 = ((a % b : Nat) : Int) := by
  have e1 := h.eq
  have e2 := h.lt
  have e3 := hq.eq
  rw [Nat.sub_zero, Nat.zero_add, Int.pow_zero, Int.one_mul, V_all _ h.lq.symm, hM] at e1
  rw [Nat.zero_add, Int.pow_zero, Int.mul_one, hM] at e2
  have e4 : V 18446744073709551616 (Lu.take (n + 2)) 0 (n + 2) = V 18446744073709551616 Lu 0 (n + 2) := V_congr fun j hj => by rw [dig_take (by omega)]
  rw [Nat.sub_zero, Nat.zero_add, V_all _ (by rw [hq.len, hl0]), e4] at e3
  have h0 := val_nonneg (q := 18446744073709551616) (by decide) hq.wd
  have e5 := div_last hP e1 e3 hq.r0 hq.r1 e2 h0
  exact nat_div_of e5.1 h0 e5.2

end Go.Proofs.Ytnodcfeimiimbaa
