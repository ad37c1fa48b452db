/-
  Walks: NPlus.
-/
import Derived.Test.YtegggnjghnbdbaaWE
namespace Go.Proofs.Ytegggnjghnbdbaa
open Go.RowKit
set_option linter.unusedVariables false
set_option linter.unusedSimpArgs false

theorem dig_over {zs : List Int} {k : Nat} (h : zs.length ≤ k) : dig zs k = 0 := by simp [dig, List.getElem?_eq_none h]
/-- the first k digits of both were added; c is carried -/
structure PlusSt (x y : List Int) (k : Nat) (c : Int) (L : List Int) : Prop where
  len : L.length = k
  wd : Wd 4294967296 L
  c0 : 0 ≤ c
  c1 : c ≤ 1
  eq : val 4294967296 L + c * 4294967296 ^ k = val 4294967296 (x.take k) + val 4294967296 (y.take k)
theorem PlusSt.step {x y : List Int} {k : Nat} {c : Int} {L : List Int} (h : PlusSt x y k c L) {d c' : Int} (hd : 0 ≤ d ∧ d < 4294967296) (hc : 0 ≤ c' ∧ c' ≤ 1) (he : d + c' * 4294967296 = c + dig x k + dig y k) : PlusSt x y (k + 1) c' (L ++ [d]) := by
  refine ⟨by simp [h.len], h.wd.append (Wd.one hd), hc.1, hc.2, ?_⟩
  have h1 := h.eq
  rw [val_snoc, h.len, val_take_dig, val_take_dig, Int.pow_succ]
  have e2 : 4294967296 ^ k * (d + c' * 4294967296) = 4294967296 ^ k * (c + dig x k + dig y k) := by rw [he]
  grind
/-- where an own row lies, if it lies anywhere: from block B on -/
theorem own_from2 {w : World} {B C : Nat} {t : TypeId} {v : Value} {n : Nat} {xs : List Value} (_h : w.ownsRow C t 1 v n xs) (hf : ∀ g, v.ownBlock = some g → B ≤ g) : ∀ k, v.ownBlock = some k → B ≤ k := hf
theorem far_of {v : Value} {g n cp : Nat} {B H : Nat} (hat : v.ownBlock = some g ∨ g = H + 1) (hf : ∀ g, v.ownBlock = some g → B ≤ g) (hB : B ≤ H) : ∀ k, (Value.slice (some ⟨g, 0, none⟩) n cp).ownBlock = some k → B ≤ k := by
  intro k hk
  simp only [Value.ownBlock, Option.some.injEq] at hk
  subst hk
  rcases hat with h | h
  · exact hf g h
  · omega

end Go.Proofs.Ytegggnjghnbdbaa
