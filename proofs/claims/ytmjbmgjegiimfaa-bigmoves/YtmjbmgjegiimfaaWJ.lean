/-
  Walks: negatives, sizes, comparisons.
-/
import Derived.Test.YtmjbmgjegiimfaaWI
namespace Go.Proofs.Ytmjbmgjegiimfaa
open Go.RowKit
set_option linter.unusedVariables false
set_option linter.unusedSimpArgs false

theorem sgn_abs (v : Int) : (v.natAbs : Int) = sgn false v.natAbs := rfl

set_option maxRecDepth 100000 in
set_option maxHeartbeats 1000000 in
theorem rless_any (na nb : Bool) (ao bo : Option Addr) (la ca lb cb : Nat) (a b : Int) (w : World) (hx : IntAt w na ao la ca a) (hy : IntAt w nb bo lb cb b) (hl : la ≤ 1073741824) (hl' : lb ≤ 1073741824) :
    Calls Try.prog 51 #[.agg #[.bool na, .slice ao la ca], .agg #[.bool nb, .slice bo lb cb]] w fun e w' => RefInt w w' e (a - b) := by
  obtain ⟨W, hT⟩ := Two3.mk' w na nb ao bo la ca lb cb
  have hsz := hT.size
  have hRx := hx.later hT.below
  have hRy := hy.later hT.below
  clear hx hy
  have KS : Hid (∀ w' : World, Below (w.heap.size + 2) W w' → (Below (w.heap.size + 2) W w' ∧ w'.cell? ⟨w.heap.size, 0, none⟩ = some (.bool na) ∧ w'.cell? ⟨w.heap.size, 1, none⟩ = some (.slice ao la ca) ∧ w'.cell? ⟨w.heap.size + 1, 0, none⟩ = some (.bool nb) ∧ w'.cell? ⟨w.heap.size + 1, 1, none⟩ = some (.slice bo lb cb))) := fun w' h => ⟨h, (h.cell (p := ⟨w.heap.size, 0, none⟩) (by show w.heap.size < _; omega)).trans hT.a.1, (h.cell (p := ⟨w.heap.size, 1, none⟩) (by show w.heap.size < _; omega)).trans hT.a.2, (h.cell (p := ⟨w.heap.size + 1, 0, none⟩) (by show w.heap.size + 1 < _; omega)).trans hT.b.1, (h.cell (p := ⟨w.heap.size + 1, 1, none⟩) (by show w.heap.size + 1 < _; omega)).trans hT.b.2⟩
  have K1 : Hid (∀ w1 w2 : World, (Below (w.heap.size + 2) W w1 ∧ w1.cell? ⟨w.heap.size, 0, none⟩ = some (.bool na) ∧ w1.cell? ⟨w.heap.size, 1, none⟩ = some (.slice ao la ca) ∧ w1.cell? ⟨w.heap.size + 1, 0, none⟩ = some (.bool nb) ∧ w1.cell? ⟨w.heap.size + 1, 1, none⟩ = some (.slice bo lb cb)) → Below w1.heap.size w1 w2 → (Below (w.heap.size + 2) W w2 ∧ w2.cell? ⟨w.heap.size, 0, none⟩ = some (.bool na) ∧ w2.cell? ⟨w.heap.size, 1, none⟩ = some (.slice ao la ca) ∧ w2.cell? ⟨w.heap.size + 1, 0, none⟩ = some (.bool nb) ∧ w2.cell? ⟨w.heap.size + 1, 1, none⟩ = some (.slice bo lb cb))) := fun w1 w2 h hb => KS.out _ (h.1.trans (hb.mono (by have := h.1.size; omega)))
  have K2 : Hid (∀ w1 w2 : World, (Below (w.heap.size + 2) W w1 ∧ w1.cell? ⟨w.heap.size, 0, none⟩ = some (.bool na) ∧ w1.cell? ⟨w.heap.size, 1, none⟩ = some (.slice ao la ca) ∧ w1.cell? ⟨w.heap.size + 1, 0, none⟩ = some (.bool nb) ∧ w1.cell? ⟨w.heap.size + 1, 1, none⟩ = some (.slice bo lb cb)) → Below (w.heap.size + 2) w1 w2 → (Below (w.heap.size + 2) W w2 ∧ w2.cell? ⟨w.heap.size, 0, none⟩ = some (.bool na) ∧ w2.cell? ⟨w.heap.size, 1, none⟩ = some (.slice ao la ca) ∧ w2.cell? ⟨w.heap.size + 1, 0, none⟩ = some (.bool nb) ∧ w2.cell? ⟨w.heap.size + 1, 1, none⟩ = some (.slice bo lb cb))) := fun w1 w2 h hb => KS.out _ (h.1.trans hb)
  go_enter Try.func51, Try.ntmps51
  go_wp2
  rw [← hT.eq]
  go_region_held3 (fun w' => Below (w.heap.size + 2) W w' ∧ w'.cell? ⟨w.heap.size, 0, none⟩ = some (.bool na) ∧ w'.cell? ⟨w.heap.size, 1, none⟩ = some (.slice ao la ca) ∧ w'.cell? ⟨w.heap.size + 1, 0, none⟩ = some (.bool nb) ∧ w'.cell? ⟨w.heap.size + 1, 1, none⟩ = some (.slice bo lb cb))
    (first
      | exact KS.out _ (Below.refl _ _).drew
      | exact K1.out _ _ (by assumption) (by assumption)
      | exact K2.out _ _ (by assumption) (below_store (Below.refl _ _) (by omega) _ _))
    (first
      | (go_at_call 68; refine (rneg_any nb bo lb cb b _ (hRy.later (Below.refl _ _).drew) (by omega)).mono ?_; rintro e w1 ⟨n1, ao1, l1, c1, rfl, hi1, hb1⟩; have HI1 : Hid (IntAt w1 n1 ao1 l1 c1 (-b)) := hi1; clear hi1; have hlen1 : l1 ≤ 1073741824 := by (rw [HI1.out.row.hlen]; have := hRy.row.hlen; rw [Int.natAbs_neg]; omega))
      | (go_at_call 26; refine (rplus_any na n1 ao ao1 la ca l1 c1 a (-b) _ (hRx.later ((Below.refl _ _).drew.trans hb1)) HI1.out hl hlen1).mono ?_; rintro e w2 ⟨n2, ao2, l2, c2, rfl, hi2, hb2⟩; have HI2 : Hid (IntAt w2 n2 ao2 l2 c2 (a + -b)) := hi2; clear hi2; obtain ⟨g5, g3, g4⟩ := hT.r.later (bnext ((Below.refl _ _).drew.trans hb1) hb2) (by omega)))
  go_wp2
  exact bodyPost_ret (v := .agg #[.bool n2, .slice ao2 l2 c2]) (by simp [results, Try.results51, go_sem, g3, g4]) rfl
    ⟨_, _, _, _, rfl, ⟨HI2.out.sg, HI2.out.row.kept ⟨g5, g3, g4⟩ _ _⟩, below_store (bnext hT.below (bnext ((Below.refl _ _).drew.trans hb1) hb2)) (by omega) _ _⟩

theorem cmpI_sub (a b : Int) : cmpI (a - b) 0 = cmpI a b := by
  unfold cmpI
  by_cases h1 : a < b
  · rw [if_pos h1, if_pos (by omega)]
  · by_cases h2 : b < a
    · rw [if_neg h1, if_pos h2, if_neg (by omega), if_pos (by omega)]
    · rw [if_neg h1, if_neg h2, if_neg (by omega), if_neg (by omega)]

set_option maxRecDepth 100000 in
set_option maxHeartbeats 1000000 in
theorem rcmp_any (na nb : Bool) (ao bo : Option Addr) (la ca lb cb : Nat) (a b : Int) (w : World) (hx : IntAt w na ao la ca a) (hy : IntAt w nb bo lb cb b) (hl : la ≤ 1073741824) (hl' : lb ≤ 1073741824) (c : Int) (hc : cmpI a b = c) :
    Calls Try.prog 27 #[.agg #[.bool na, .slice ao la ca], .agg #[.bool nb, .slice bo lb cb]] w fun e w' => e = .returned (.int .i64 c) ∧ Below w.heap.size w w' := by
  obtain ⟨W, hT⟩ := Two2.mk' w na nb ao bo la ca lb cb
  have hsz := hT.size
  have hRx := hx.later hT.below
  have hRy := hy.later hT.below
  have HC : Hid (cmpI (a - b) 0 = c) := (cmpI_sub a b).trans hc
  clear hx hy hc
  go_enter Try.func27, Try.ntmps27
  go_wp2_with (first
    | (go_at_call 51; rw [← hT.eq]; refine (rless_any na nb ao bo la ca lb cb a b _ hRx hRy hl hl').mono ?_; rintro e w2 ⟨n2, ao2, l2, c2, rfl, hi2, hb2⟩; have HI2 : Hid (IntAt w2 n2 ao2 l2 c2 (a - b)) := hi2; clear hi2; have hl2 : l2 ≤ 4611686018427387904 := by (rw [HI2.out.row.hlen]; have h1 := mag_len_mono (Int.natAbs_sub_le a b); have h2 := mag_len_add a.natAbs b.natAbs; rw [← hRx.row.hlen, ← hRy.row.hlen] at h2; omega))
    | (go_at_call 50; refine (rsign_any n2 ao2 l2 c2 (a - b) _ HI2.out hl2 c HC.out).mono ?_; rintro e w3 ⟨rfl, hb3⟩))
  go_ret
  exact ⟨rfl, bnext hT.below (bnext hb2 hb3)⟩

end Go.Proofs.Ytmjbmgjegiimfaa
