/-
  Walks: negatives, sizes, comparisons.
-/
import Derived.Test.YtnodcfeimiimbaaWI
namespace Go.Proofs.Ytnodcfeimiimbaa
open Go.RowKit
set_option linter.unusedVariables false
set_option linter.unusedSimpArgs false

theorem sgn_abs (v : Int) : (v.natAbs : Int) = sgn false v.natAbs := rfl

set_option maxRecDepth 100000 in
set_option maxHeartbeats 1000000 in
theorem bneg_any (neg : Bool) (ao : Option Addr) (len cap : Nat) (v : Int) (w : World) (hx : IntAt w neg ao len cap v) (hl : len ≤ 4294967296) :
    Calls Try.prog 47 #[.agg #[.bool neg, .slice ao len cap]] w fun e w' => NewInt w w' e (-v) := by
  obtain ⟨W, hT⟩ := One2.mk' w neg ao len cap
  have hsz := hT.size
  have hR := hx.later hT.below
  have hM : Hid ((if mayB neg (mag v.natAbs) then 0 else 10 : Int) = 0) := hx.may
  have HE : Hid (-v = sgn (!neg) v.natAbs) := sgn_neg hx.sg
  clear hx
  have KS : Hid (∀ w' : World, Below (w.heap.size + 1) W w' → (Below (w.heap.size + 1) W w' ∧ w'.cell? ⟨w.heap.size, 0, none⟩ = some (.bool neg) ∧ w'.cell? ⟨w.heap.size, 1, none⟩ = some (.slice ao len cap))) := fun w' h => ⟨h, (h.cell (p := ⟨w.heap.size, 0, none⟩) (by show w.heap.size < _; omega)).trans hT.a.1, (h.cell (p := ⟨w.heap.size, 1, none⟩) (by show w.heap.size < _; omega)).trans hT.a.2⟩
  have K1 : Hid (∀ w1 w2 : World, (Below (w.heap.size + 1) W w1 ∧ w1.cell? ⟨w.heap.size, 0, none⟩ = some (.bool neg) ∧ w1.cell? ⟨w.heap.size, 1, none⟩ = some (.slice ao len cap)) → Below w1.heap.size w1 w2 → (Below (w.heap.size + 1) W w2 ∧ w2.cell? ⟨w.heap.size, 0, none⟩ = some (.bool neg) ∧ w2.cell? ⟨w.heap.size, 1, none⟩ = some (.slice ao len cap))) := fun w1 w2 h hb => KS.out _ (h.1.trans (hb.mono (by have := h.1.size; omega)))
  have K2 : Hid (∀ w1 w2 : World, (Below (w.heap.size + 1) W w1 ∧ w1.cell? ⟨w.heap.size, 0, none⟩ = some (.bool neg) ∧ w1.cell? ⟨w.heap.size, 1, none⟩ = some (.slice ao len cap)) → Below (w.heap.size + 1) w1 w2 → (Below (w.heap.size + 1) W w2 ∧ w2.cell? ⟨w.heap.size, 0, none⟩ = some (.bool neg) ∧ w2.cell? ⟨w.heap.size, 1, none⟩ = some (.slice ao len cap))) := fun w1 w2 h hb => KS.out _ (h.1.trans hb)
  go_enter Try.func47, Try.ntmps47
  go_wp2_with (go_at_call 37; rw [← hT.eq]; refine (check_at neg ao len cap _ _ hR.row (by omega) 0 hM.out).mono ?_; rintro e w1 ⟨rfl, hb1⟩; have hs1 := hb1.size)
  have hbX : Below (w.heap.size + 1) W w1 := hb1.mono (by omega)
  go_region_held3 (fun w' => Below (w.heap.size + 1) W w' ∧ w'.cell? ⟨w.heap.size, 0, none⟩ = some (.bool neg) ∧ w'.cell? ⟨w.heap.size, 1, none⟩ = some (.slice ao len cap))
    (first
      | exact KS.out _ hbX.drew
      | exact K1.out _ _ (by assumption) (by assumption)
      | exact K2.out _ _ (by assumption) (below_store (Below.refl _ _) (by omega) _ _))
    (first
      | (go_at_call 58; refine (clone_any ao len cap _ _ (hR.row.later hb1.drew) hl).mono ?_; rintro e w2 ⟨ao2, l2, c2, rfl, ho2, hb2⟩; have hlen2 : l2 ≤ 4611686018427387904 := by (rw [ho2.row.hlen, ← hR.row.hlen]; omega))
      | (go_at_call 57; refine (signed_any (!neg) ao2 l2 c2 _ hlen2).mono ?_; rintro e w3 ⟨rfl, hb3⟩; obtain ⟨g5, g3, g4⟩ := hT.r.later (bnext hb1.drew (bnext hb2 hb3)) (by omega)))
  go_wp2
  exact bodyPost_ret (v := .agg #[.bool ((!neg) && decide (0 < l2)), .slice ao2 l2 c2]) (by simp [results, Try.results47, go_sem, g3, g4]) rfl
    (NewInt.ret ((ho2.later hb3).store (by show _ < w1.heap.size; omega) _ _) (by show _ ≤ w1.heap.size; omega) HE.out (below_store (bnext hT.below (bnext hb1.drew (bnext hb2 hb3))) (by omega) _ _))

theorem cmpI_sub (a b : Int) : cmpI (a - b) 0 = cmpI a b := by
  unfold cmpI
  by_cases h1 : a < b
  · rw [if_pos h1, if_pos (by omega)]
  · by_cases h2 : b < a
    · rw [if_neg h1, if_pos h2, if_neg (by omega), if_pos (by omega)]
    · rw [if_neg h1, if_neg h2, if_neg (by omega), if_neg (by omega)]

end Go.Proofs.Ytnodcfeimiimbaa
