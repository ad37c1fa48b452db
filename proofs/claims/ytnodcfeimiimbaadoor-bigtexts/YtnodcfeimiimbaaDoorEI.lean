/-
  Walks: power (short numbers).
-/
import Derived.Test.YtnodcfeimiimbaaDoorEH
import Derived.Lib.RabinKarpLaws
namespace Go.Proofs.YtnodcfeimiimbaaDoor
open Go.RowKit Go.Shelf
set_option linter.unusedVariables false
set_option linter.unusedSimpArgs false

theorem pow_le' {a k n : Nat} (h1 : 1 ≤ k) (h2 : k ≤ n) : a ^ k ≤ a ^ n := by
  by_cases h : a = 0
  · subst h; rw [Nat.zero_pow (by omega)]; exact Nat.zero_le _
  · exact Nat.pow_le_pow_right (by omega) h2
theorem pow_len {a k n : Nat} (h1 : 1 ≤ k) (h2 : k ≤ n) : (mag (a ^ k)).length ≤ (mag (a ^ n)).length := mag_len_mono (pow_le' h1 h2)

theorem mag_len_mul (a b : Nat) : (mag (a * b)).length ≤ (mag a).length + (mag b).length := by
  apply mag_len_le
  have h1 := mag_len_lt (n := a) rfl
  have h2 := mag_len_lt (n := b) rfl
  rw [Int.natCast_mul, Int.pow_add]
  by_cases hb : b = 0
  · subst hb
    rw [Int.natCast_zero, Int.mul_zero]
    exact Int.mul_pos (Int.pow_pos (by decide)) (Int.pow_pos (by decide))
  · exact Int.lt_of_lt_of_le (Int.mul_lt_mul_of_pos_right h1 (by omega)) (Int.mul_le_mul_of_nonneg_left (Int.le_of_lt h2) (Int.le_of_lt (Int.pow_pos (by decide))))
theorem pow_half_len {a n : Nat} (h : (mag (a ^ n)).length < 40) : (mag (a ^ (n / 2))).length < 40 := by
  by_cases h1 : n / 2 = 0
  · rw [h1, Nat.pow_zero]; have := mag_len_one (n := 1) (by decide); omega
  · exact Nat.lt_of_le_of_lt (pow_len (by omega) (Nat.div_le_self _ _)) h
theorem pow_top {n l : Nat} (h1 : 2 ^ (l - 1) ≤ n) (h2 : n < 2 ^ l) (h3 : 1 ≤ l) : n / 2 ^ (l - 1) = 1 := by
  have e : 2 ^ l = 2 * 2 ^ (l - 1) := by rw [Nat.mul_comm, ← Nat.pow_succ]; congr 1; omega
  have h4 : n / 2 ^ (l - 1) < 2 := (Nat.div_lt_iff_lt_mul (Nat.pow_pos (by decide))).2 (by omega)
  have h5 : 1 ≤ n / 2 ^ (l - 1) := (Nat.le_div_iff_mul_le (Nat.pow_pos (by decide))).2 (by omega)
  omega
/-- the row of the power so far -/
def PowAt (w wr : World) (v : Value) (a n b : Nat) : Prop :=
  ∃ ao l c, v = .slice ao l c ∧ Own w.heap.size wr .u64 54 ao l c (mag (a ^ (n / 2 ^ b))) ∧ Below w.heap.size w wr

end Go.Proofs.YtnodcfeimiimbaaDoor
