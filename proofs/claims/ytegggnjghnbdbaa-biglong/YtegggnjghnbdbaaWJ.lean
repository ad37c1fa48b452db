/-
  Walks: negatives, sizes, comparisons.
-/
import Derived.Test.YtegggnjghnbdbaaWI
namespace Go.Proofs.Ytegggnjghnbdbaa
open Go.RowKit
set_option linter.unusedVariables false
set_option linter.unusedSimpArgs false

theorem sgn_abs (v : Int) : (v.natAbs : Int) = sgn false v.natAbs := rfl

set_option maxRecDepth 100000 in
set_option maxHeartbeats 1000000 in
theorem babs_any (neg : Bool) (ao : Option Addr) (len cap : Nat) (v : Int) (w : World) (hx : IntAt w neg ao len cap v) (hl : len ≤ 4294967296) :
    Calls Try.prog 20 #[.agg #[.bool neg, .slice ao len cap]] w fun e w' => NewInt w w' e (v.natAbs : Int) := by
  obtain ⟨W, hT⟩ := One2.mk' w neg ao len cap
  have hsz := hT.size
  have hR := hx.later hT.below
  have hM : Hid ((if mayB neg (mag v.natAbs) then 0 else 10 : Int) = 0) := hx.may
  clear hx
  go_enter Try.func20, Try.ntmps20
  go_wp2_with (first
    | (go_at_call 29; rw [← hT.eq]; refine (check_at neg ao len cap _ _ hR.row (by omega) 0 hM.out).mono ?_; rintro e w1 ⟨rfl, hb1⟩; obtain ⟨p0, p1⟩ := hT.a.later hb1 (by omega); have hs1 := hb1.size)
    | (go_at_call 40; refine (clone_any ao len cap _ _ (hR.row.later hb1) hl).mono ?_; rintro e w2 ⟨ao2, l2, c2, rfl, ho2, hb2⟩; have hlen2 : l2 ≤ 4611686018427387904 := by (rw [ho2.row.hlen, ← hR.row.hlen]; omega))
    | (go_at_call 34; refine (signed_any false ao2 l2 c2 _ hlen2).mono ?_; rintro e w3 ⟨rfl, hb3⟩; obtain ⟨g5, g3, g4⟩ := hT.r.later (bnext hb1 (bnext hb2 hb3)) (by omega)))
  exact bodyPost_ret (v := .agg #[.bool (false && decide (0 < l2)), .slice ao2 l2 c2]) (by simp [results, Try.results20, go_sem, g3, g4]) rfl
    (NewInt.ret ((ho2.later hb3).store (by omega) _ _) (by omega) (sgn_abs v) (below_store (bnext hT.below (bnext hb1 (bnext hb2 hb3))) (by omega) _ _))

theorem cmpI_sub (a b : Int) : cmpI (a - b) 0 = cmpI a b := by
  unfold cmpI
  by_cases h1 : a < b
  · rw [if_pos h1, if_pos (by omega)]
  · by_cases h2 : b < a
    · rw [if_neg h1, if_pos h2, if_neg (by omega), if_pos (by omega)]
    · rw [if_neg h1, if_neg h2, if_neg (by omega), if_neg (by omega)]

end Go.Proofs.Ytegggnjghnbdbaa
