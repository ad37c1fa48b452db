/-
  Walks: negatives, sizes, comparisons.
-/
import Derived.Test.YtnodcfeimiimbaaDoorWI
namespace Go.Proofs.YtnodcfeimiimbaaDoor
open Go.RowKit
set_option linter.unusedVariables false
set_option linter.unusedSimpArgs false

theorem sgn_abs (v : Int) : (v.natAbs : Int) = sgn false v.natAbs := rfl

theorem cmpI_sub (a b : Int) : cmpI (a - b) 0 = cmpI a b := by
  unfold cmpI
  by_cases h1 : a < b
  · rw [if_pos h1, if_pos (by omega)]
  · by_cases h2 : b < a
    · rw [if_neg h1, if_pos h2, if_neg (by omega), if_pos (by omega)]
    · rw [if_neg h1, if_neg h2, if_neg (by omega), if_neg (by omega)]

end Go.Proofs.YtnodcfeimiimbaaDoor
