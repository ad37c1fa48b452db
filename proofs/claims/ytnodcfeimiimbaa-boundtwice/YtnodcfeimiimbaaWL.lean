/-
  Walks: Cmp, Small.
-/
import Derived.Test.YtnodcfeimiimbaaWK
namespace Go.Proofs.Ytnodcfeimiimbaa
open Go.RowKit
set_option linter.unusedVariables false
set_option linter.unusedSimpArgs false

/-- the word of a number that has one -/
theorem mag_one {n : Nat} (h : 0 < n) (h1 : n < 18446744073709551616) : mag n = [(n : Int)] := mag_of (Wd.one (by omega)) (by simp [Can]; omega) (by simp [val])
theorem mag_two {n : Nat} (h : 18446744073709551616 ≤ n) : 1 < (mag n).length := by
  by_cases e : (mag n).length ≤ 1
  · exfalso
    have h1 := mag_len_lt (n := n) rfl
    have h2 := pow_mono' (q := 18446744073709551616) (by decide) e
    omega
  · omega

end Go.Proofs.Ytnodcfeimiimbaa
