/-
  Walks: Small.
-/
import Derived.Test.YtegggnjghnbdbaaWL
namespace Go.Proofs.Ytegggnjghnbdbaa
open Go.RowKit
set_option linter.unusedVariables false
set_option linter.unusedSimpArgs false

/-- is it an int64? -/
def smallB (v : Int) : Bool := decide (-9223372036854775808 ≤ v ∧ v < 9223372036854775808)
def smallI (v : Int) : Int := if smallB v then v else 0
theorem small_yes {v : Int} (h : -9223372036854775808 ≤ v ∧ v < 9223372036854775808) : smallB v = true ∧ smallI v = v := by
  have : smallB v = true := decide_eq_true h
  exact ⟨this, by unfold smallI; rw [this]; rfl⟩
theorem small_no {v : Int} (h : ¬ (-9223372036854775808 ≤ v ∧ v < 9223372036854775808)) : smallB v = false ∧ smallI v = 0 := by
  have : smallB v = false := decide_eq_false h
  exact ⟨this, by unfold smallI; rw [this]; rfl⟩
theorem ret_two {x y : Int} {b : Bool} (h : x = y) : Ending.returned (.tuple #[.int .i64 x, .bool b]) = .returned (.tuple #[.int .i64 y, .bool b]) := by rw [h]

end Go.Proofs.Ytegggnjghnbdbaa
