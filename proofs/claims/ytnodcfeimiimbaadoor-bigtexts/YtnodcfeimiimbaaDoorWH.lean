/-
  Walks: the page's own sums of numbers.
-/
import Derived.Test.YtnodcfeimiimbaaDoorWG
import Derived.Test.YtnodcfeimiimbaaDoorWB
namespace Go.Proofs.YtnodcfeimiimbaaDoor
open Go.RowKit
set_option linter.unusedVariables false
set_option linter.unusedSimpArgs false

/-- a number, in whatever memory: what the page's own calls hand back -/
def RefInt (w w' : World) (e : Ending) (v : Int) : Prop :=
  ∃ neg ao len cap, e = .returned (.agg #[.bool neg, .slice ao len cap]) ∧ IntAt w' neg ao len cap v ∧ Below w.heap.size w w'
theorem NewInt.ref {w w' : World} {e : Ending} {v : Int} (h : NewInt w w' e v) : RefInt w w' e v := by
  obtain ⟨neg, ao, l, c, he, hs, ho, hb⟩ := h
  exact ⟨neg, ao, l, c, he, ⟨hs, ho.row⟩, hb⟩
theorem RefInt.ret {w w' : World} {neg : Bool} {n l c : Nat} {ao : Option Addr} {v : Int} (ho : RowAt w' .u64 ao l c (mag n)) (hv : v = sgn neg n) (hb : Below w.heap.size w w') : RefInt w w' (.returned (.agg #[.bool (neg && decide (0 < l)), .slice ao l c])) v := by
  subst hv
  refine ⟨_, _, _, _, rfl, ⟨?_, ?_⟩, hb⟩
  · rw [sgB_sgn, ho.hlen]
  · rw [natAbs_sgn]; exact ho
end Go.Proofs.YtnodcfeimiimbaaDoor
