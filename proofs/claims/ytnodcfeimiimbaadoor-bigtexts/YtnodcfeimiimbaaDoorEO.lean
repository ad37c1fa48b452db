/-
  EM, EN, EO.
-/
import Derived.Test.YtnodcfeimiimbaaDoorEL

/- Walks: Mul (one factor short), Pow, Root; the laws' add, mul, Within. -/
namespace Go.Proofs.YtnodcfeimiimbaaDoor
open Go.RowKit Go.Shelf
set_option linter.unusedVariables false
set_option linter.unusedSimpArgs false

theorem sgn_mul {na nb : Bool} {a b : Int} (ha : na = sgB a) (hb : nb = sgB b) : a * b = sgn (na != nb) (a.natAbs * b.natAbs) := by
  have h1 := sgn_of ha
  have h2 := sgn_of hb
  unfold sgn at h1 h2 ⊢
  rw [Int.natCast_mul]
  cases na <;> cases nb <;> simp at h1 h2 ⊢
  · rw [h1, h2]
  · rw [h1, ← Int.mul_neg, h2]
  · rw [h2, ← Int.neg_mul, h1]
  · rw [← Int.neg_mul_neg a b, show -a = (a.natAbs : Int) by omega, show -b = (b.natAbs : Int) by omega]

end Go.Proofs.YtnodcfeimiimbaaDoor

/- Walks: Pow, Root (short numbers); the laws' mul, add, Within. -/
namespace Go.Proofs.YtnodcfeimiimbaaDoor
open Go.RowKit Go.Shelf
set_option linter.unusedVariables false
set_option linter.unusedSimpArgs false

theorem sgn_pow {neg : Bool} {v : Int} (h : neg = sgB v) (n : Nat) : v ^ n = sgn (neg && decide (n % 2 = 1)) (v.natAbs ^ n) := by
  have h1 := sgn_of h
  unfold sgn at h1 ⊢
  rw [Int.natCast_pow]
  cases neg
  · simp at h1 ⊢; rw [h1]
  · simp at h1
    have h2 : v = -(v.natAbs : Int) := h1.symm
    obtain ⟨k, hk⟩ : ∃ k, v.natAbs = k := ⟨_, rfl⟩
    rw [hk] at h2 ⊢
    subst h2
    rcases Nat.mod_two_eq_zero_or_one n with e | e
    · obtain ⟨j, rfl⟩ : ∃ j, n = 2 * j := ⟨n / 2, by omega⟩
      simp [e]
      rw [Int.pow_mul, Int.pow_mul]; congr 1; grind
    · obtain ⟨j, rfl⟩ : ∃ j, n = 2 * j + 1 := ⟨n / 2, by omega⟩
      simp [e]
      rw [Int.pow_succ, Int.pow_succ, Int.pow_mul, Int.pow_mul, show (-(k : Int)) ^ 2 = (k : Int) ^ 2 by grind]; grind

theorem NewInt.err {w w' : World} {x : Value} {v : Int} (h : NewInt w w' (.returned x) v) : NewIntErr w w' (.returned (.tuple #[x, .int .i64 0])) v := by
  obtain ⟨n9, ao9, l9, c9, he9, hrest9⟩ := h
  simp only [Ending.returned.injEq] at he9
  subst he9
  exact ⟨n9, ao9, l9, c9, rfl, hrest9⟩

end Go.Proofs.YtnodcfeimiimbaaDoor

/- Walks: the laws' mul, add, Within. -/
namespace Go.Proofs.YtnodcfeimiimbaaDoor
open Go.RowKit Go.Shelf
set_option linter.unusedVariables false
set_option linter.unusedSimpArgs false

end Go.Proofs.YtnodcfeimiimbaaDoor
