/-
  Walks: NLess.
-/
import Derived.Test.YtegggnjghnbdbaaWF
namespace Go.Proofs.Ytegggnjghnbdbaa
open Go.RowKit
set_option linter.unusedVariables false
set_option linter.unusedSimpArgs false

/-- the first k digits of y were taken from those of x; c is borrowed (0 or -1) -/
structure LessSt (x y : List Int) (k : Nat) (c : Int) (L : List Int) : Prop where
  len : L.length = k
  wd : Wd 4294967296 L
  c0 : -1 ≤ c
  c1 : c ≤ 0
  eq : val 4294967296 L + c * 4294967296 ^ k = val 4294967296 (x.take k) - val 4294967296 (y.take k)
theorem LessSt.step {x y : List Int} {k : Nat} {c : Int} {L : List Int} (h : LessSt x y k c L) {d c' : Int} (hd : 0 ≤ d ∧ d < 4294967296) (hc : -1 ≤ c' ∧ c' ≤ 0) (he : d + c' * 4294967296 = c + dig x k - dig y k) : LessSt x y (k + 1) c' (L ++ [d]) := by
  refine ⟨by simp [h.len], h.wd.append (Wd.one hd), hc.1, hc.2, ?_⟩
  have h1 := h.eq
  rw [val_snoc, h.len, val_take_dig, val_take_dig, Int.pow_succ]
  have e2 : 4294967296 ^ k * (d + c' * 4294967296) = 4294967296 ^ k * (c + dig x k - dig y k) := by rw [he]
  grind

end Go.Proofs.Ytegggnjghnbdbaa
