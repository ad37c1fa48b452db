/-
  Walks: wakes.
-/
import Derived.Test.YtiiefpnkpfliiaaGreatDoorWP
namespace Go.Proofs.YtiiefpnkpfliiaaGreatDoor
open Go.RowKit
set_option linter.unusedVariables false
set_option linter.unusedSimpArgs false

theorem Own.int {B : Nat} {w : World} {neg : Bool} {ao : Option Addr} {l c : Nat} {v : Int} (h : Own B w .u64 59 ao l c (mag v.natAbs)) (hs : neg = sgB v) : IntAt w neg ao l c v := ⟨hs, h.row⟩

/-- two numbers are alike just if they are equal -/
theorem eqint_at (na nb : Bool) (ao bo : Option Addr) (la ca lb cb : Nat) (a b : Int) (w : World) (hx : IntAt w na ao la ca a) (hy : IntAt w nb bo lb cb b) (hl : la ≤ 4611686018427387904) (c : Bool) (hc : decide (a = b) = c) :
    Calls Tryz.prog 11 #[.agg #[.bool na, .slice ao la ca], .agg #[.bool nb, .slice bo lb cb]] w fun e w' => e = .returned (.bool c) ∧ Below w.heap.size w w' := by
  refine (eqint_any na nb ao bo la ca lb cb _ _ w hx.row hy.row hl).mono fun e w' h => ?_
  have e1 : (decide (na = nb) && decide (mag a.natAbs = mag b.natAbs)) = c := by
    rw [← hc]
    by_cases h1 : a = b
    · subst h1; rw [hx.sg, hy.sg]; simp
    · rw [decide_eq_false h1]
      by_cases h2 : na = nb
      · have h3 : ¬ mag a.natAbs = mag b.natAbs := fun h3 => by
          have := limbs_inj (q := 18446744073709551616) (by decide) h3
          have e1 := sgn_of hx.sg; have e2 := sgn_of hy.sg
          rw [this, h2] at e1
          exact h1 (e1.symm.trans e2)
        simp [h3]
      · simp [h2]
  rw [e1] at h; exact h

theorem mag_len_small {v : Int} (h : v.natAbs < 18446744073709551616) : (mag v.natAbs).length ≤ 1 := mag_len_one h

end Go.Proofs.YtiiefpnkpfliiaaGreatDoor
