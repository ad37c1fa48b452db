/-
  Plain mathematics: Knuth's division, limb by limb.
-/
import Derived.Test.YtafohkcbonlgkaaDoorEB
import Derived.Test.YtafohkcbonlgkaaDoorWR
namespace Go.Proofs.YtafohkcbonlgkaaDoor
open Go.RowKit
set_option linter.unusedVariables false
set_option linter.unusedSimpArgs false

/-- the quotient's digits from place k on lie in Lq; what is left of X lies in Lu, below k + n -/
structure DivSt (q M X : Int) (n m k : Nat) (nu : Nat) (Lu Lq : List Int) : Prop where
  lu : Lu.length = nu
  lq : Lq.length = m
  wu : Wd q Lu
  wq : Wd q Lq
  eq : V q Lq k (m - k) * (q ^ k * M) + V q Lu 0 (k + n) = X
  lt : V q Lu 0 (k + n) < M * q ^ k

theorem DivSt.pre {q M X : Int} {n m k nu : Nat} {Lu Lq : List Int} (hq : 1 < q) (h : DivSt q M X n m (k + 1) nu Lu Lq) : V q Lu k (n + 1) < M * q := by
  have e := h.lt
  rw [show k + 1 + n = k + (n + 1) by omega, V_split, Int.pow_succ, Nat.zero_add] at e
  have h0 := V_nonneg (q := q) (by omega) h.wu 0 k
  have hp : 0 < q ^ k := Int.pow_pos (by omega)
  have e2 : q ^ k * V q Lu k (n + 1) < q ^ k * (M * q) := by
    have : M * (q ^ k * q) = q ^ k * (M * q) := by grind
    omega
  exact Int.lt_of_mul_lt_mul_left e2 (by omega)

theorem DivSt.step {q M X : Int} {n m k nu : Nat} {Lu Lq L' : List Int} {d : Int} (hq : 1 < q) (h : DivSt q M X n m (k + 1) nu Lu Lq) (hk : k < m) (hM : M < q ^ n) (hl : L'.length = Lu.length) (hw : Wd q L')
    (hout : ∀ j, j < k ∨ k + (n + 1) ≤ j → dig L' j = dig Lu j) (hd : 0 ≤ d ∧ d < q) (he : V q L' k (n + 1) + d * M = V q Lu k (n + 1)) (hlt : V q L' k (n + 1) < M) : DivSt q M X n m k nu L' (Lq.set k d) := by
  have hlk : k < Lq.length := by rw [h.lq]; exact hk
  have e0 : V q L' 0 k = V q Lu 0 k := V_congr fun j hj => by rw [hout _ (by omega)]
  have hp : 0 < q ^ k := Int.pow_pos (by omega)
  have hz : V q L' k (n + 1) = V q L' k n := by
    have a1 := V_nonneg (q := q) (by omega) hw k n
    have a2 := hw.dig (by omega) (k + n)
    rw [V_succ] at hlt ⊢
    by_cases h0 : dig L' (k + n) = 0
    · rw [h0]; simp
    · have : q ^ n * 1 ≤ q ^ n * dig L' (k + n) := Int.mul_le_mul_of_nonneg_left (by omega) (Int.le_of_lt (Int.pow_pos (by omega)))
      omega
  refine ⟨by rw [hl, h.lu], by simp [h.lq], hw, h.wq.set _ hd, ?_, ?_⟩
  · rw [show m - k = (m - (k + 1)) + 1 by omega, V_cons, dig_set _ hlk, if_pos rfl]
    have e1 : V q (Lq.set k d) (k + 1) (m - (k + 1)) = V q Lq (k + 1) (m - (k + 1)) := V_congr fun j hj => by rw [dig_set _ hlk, if_neg (by omega)]
    have e2 := h.eq
    rw [show k + 1 + n = k + (n + 1) by omega, V_split, Nat.zero_add, Int.pow_succ, ← he] at e2
    rw [e1, V_split, Nat.zero_add, e0, ← hz]
    grind
  · rw [V_split, Nat.zero_add, ← hz]
    have b1 := V_lt hq hw 0 k
    have : q ^ k * (V q L' k (n + 1) + 1) ≤ q ^ k * M := Int.mul_le_mul_of_nonneg_left (by omega) (by omega)
    rw [Int.mul_add, Int.mul_one] at this
    rw [Int.mul_comm M]; omega

/-- both numbers times P divided: the quotient, and what is left, P times -/
theorem div_last {A B P Q R r u : Int} (hP : 0 < P) (h1 : Q * (P * B) + u = P * A) (h2 : R * P + r = u) (hr : 0 ≤ r) (hr' : r < P) (hu : u < P * B) (hR : 0 ≤ R) : Q * B + R = A ∧ R < B := by
  have e : r = P * (A - Q * B - R) := by
    have : P * (A - Q * B - R) = P * A - Q * (P * B) - R * P := by grind
    omega
  have hz : r = 0 := by
    obtain ⟨T, hT⟩ : ∃ T, A - Q * B - R = T := ⟨_, rfl⟩
    rw [hT] at e
    by_cases h : T = 0
    · rw [e, h]; simp
    · rcases Int.lt_or_gt_of_ne h with h5 | h5
      · have : P * T ≤ P * (-1) := Int.mul_le_mul_of_nonneg_left (by omega) (by omega)
        omega
      · have : P * 1 ≤ P * T := Int.mul_le_mul_of_nonneg_left (by omega) (by omega)
        omega
  have e2 : P * (Q * B + R) = P * A := by
    have : P * (Q * B + R) = Q * (P * B) + R * P := by grind
    omega
  refine ⟨Int.eq_of_mul_eq_mul_left (by omega) e2, ?_⟩
  have e3 : P * R < P * B := by rw [Int.mul_comm P R]; omega
  exact Int.lt_of_mul_lt_mul_left e3 (by omega)

theorem nat_div_of {A B : Nat} {Q R : Int} (h : Q * B + R = A) (hR : 0 ≤ R) (hlt : R < B) : Q = ((A / B : Nat) : Int) ∧ R = ((A % B : Nat) : Int) := by
  have := quot_unique (D := (B : Int)) (N := (A : Int)) (q := Q) (by omega) (by omega) (by rw [Int.add_mul]; omega)
  rw [Int.natCast_ediv, Int.natCast_emod]
  exact ⟨this.1, by rw [← this.2]; omega⟩

/-- a number shifted up so that its top limb's top bit is set -/
theorem norm_top {ys Lv : List Int} {n : Nat} {c P z : Int} (hn : n + 1 = ys.length) (hy : Wd 18446744073709551616 ys) (hz : dig ys n = z) (hv : Wd 18446744073709551616 Lv) (hP : 0 < P) (h1 : 9223372036854775808 ≤ z * P) (h2 : (z + 1) * P ≤ 18446744073709551616) (hc : 0 ≤ c)
    (he : V 18446744073709551616 Lv 0 (n + 1) + c * 18446744073709551616 ^ (n + 1) = P * val 18446744073709551616 ys) : c = 0 ∧ 9223372036854775808 ≤ dig Lv n := by
  have a0 := V_nonneg (q := 18446744073709551616) (by decide) hy 0 n
  have a1 := V_lt (q := 18446744073709551616) (by decide) hy 0 n
  have e0 : val 18446744073709551616 ys = V 18446744073709551616 ys 0 n + 18446744073709551616 ^ n * z := by rw [← V_all _ hn, V_succ, Nat.zero_add, hz]
  have b0 := V_nonneg (q := 18446744073709551616) (by decide) hv 0 n
  have b1 := V_lt (q := 18446744073709551616) (by decide) hv 0 n
  have b2 := hv.dig (by decide) n
  rw [V_succ, Nat.zero_add, Int.pow_succ, e0] at he
  obtain ⟨p, hp⟩ : ∃ p : Int, (18446744073709551616 : Int) ^ n = p := ⟨_, rfl⟩
  rw [hp] at a1 b1 he
  have hp0 : 0 < p := by rw [← hp]; exact Int.pow_pos (by decide)
  obtain ⟨a, ha⟩ : ∃ a, V 18446744073709551616 ys 0 n = a := ⟨_, rfl⟩
  obtain ⟨b, hb⟩ : ∃ b, V 18446744073709551616 Lv 0 n = b := ⟨_, rfl⟩
  obtain ⟨t, ht⟩ : ∃ t, dig Lv n = t := ⟨_, rfl⟩
  rw [ha] at a0 a1 he; rw [hb] at b0 b1 he; rw [ht] at b2 he ⊢
  have f1 : P * (a + p * z) < p * 18446744073709551616 := by
    have g1 : P * (a + p * z) < P * (p * (z + 1)) := Int.mul_lt_mul_of_pos_left (by rw [Int.mul_add]; omega) hP
    have g2 : p * ((z + 1) * P) ≤ p * 18446744073709551616 := Int.mul_le_mul_of_nonneg_left h2 (by omega)
    have g3 : P * (p * (z + 1)) = p * ((z + 1) * P) := by grind
    omega
  have f2 : p * 9223372036854775808 ≤ P * (a + p * z) := by
    have g1 : p * 9223372036854775808 ≤ p * (z * P) := Int.mul_le_mul_of_nonneg_left h1 (by omega)
    have g2 : P * (a + p * z) = P * a + p * (z * P) := by grind
    have g3 : 0 ≤ P * a := Int.mul_nonneg (by omega) a0
    omega
  have hpt : 0 ≤ p * t := Int.mul_nonneg (by omega) b2.1
  have hc0 : c = 0 := by
    by_cases h : c = 0
    · exact h
    · have : 1 * (p * 18446744073709551616) ≤ c * (p * 18446744073709551616) := Int.mul_le_mul_of_nonneg_right (by omega) (by omega)
      omega
  refine ⟨hc0, ?_⟩
  rw [hc0, Int.zero_mul] at he
  by_cases h : 9223372036854775808 ≤ t
  · exact h
  · have : p * (t + 1) ≤ p * 9223372036854775808 := Int.mul_le_mul_of_nonneg_left (by omega) (by omega)
    rw [Int.mul_add] at this; omega

/-- the first step may be taken: the quotient has its room -/
theorem div_room {xs ys : List Int} {P : Int} (hx : Wd 18446744073709551616 xs) (hy : Wd 18446744073709551616 ys) (hc : Can ys) (hne : ys ≠ []) {m : Nat} (hm : xs.length + 1 = m + ys.length) (hP : 0 < P) :
    P * val 18446744073709551616 xs < P * val 18446744073709551616 ys * 18446744073709551616 ^ m := by
  have a := val_lt (q := 18446744073709551616) (by decide) hx
  have b := val_ge (q := 18446744073709551616) (by decide) hy hc hne
  have hl : 0 < ys.length := List.length_pos_iff.2 hne
  have e : (18446744073709551616 : Int) ^ xs.length = 18446744073709551616 ^ (ys.length - 1) * 18446744073709551616 ^ m := by
    rw [← Int.pow_add]; congr 1; omega
  have h1 : (18446744073709551616 : Int) ^ (ys.length - 1) * 18446744073709551616 ^ m ≤ val 18446744073709551616 ys * 18446744073709551616 ^ m := Int.mul_le_mul_of_nonneg_right b (Int.le_of_lt (Int.pow_pos (by decide)))
  have h2 : val 18446744073709551616 xs < val 18446744073709551616 ys * 18446744073709551616 ^ m := by rw [e] at a; omega
  rw [Int.mul_assoc]
  exact Int.mul_lt_mul_of_pos_left h2 hP
end Go.Proofs.YtafohkcbonlgkaaDoor
