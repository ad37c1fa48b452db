/-
  Walks: wakes.
-/
import Derived.Test.YtnodcfeimiimbaaDoorWB
namespace Go.Proofs.YtnodcfeimiimbaaDoor
open Go.RowKit
set_option linter.unusedVariables false
set_option linter.unusedSimpArgs false

theorem Own.int {B : Nat} {w : World} {neg : Bool} {ao : Option Addr} {l c : Nat} {v : Int} (h : Own B w .u64 54 ao l c (mag v.natAbs)) (hs : neg = sgB v) : IntAt w neg ao l c v := ⟨hs, h.row⟩

/-- two numbers are alike just if they are equal -/
theorem eqint_at (na nb : Bool) (ao bo : Option Addr) (la ca lb cb : Nat) (a b : Int) (w : World) (hx : IntAt w na ao la ca a) (hy : IntAt w nb bo lb cb b) (hl : la ≤ 4611686018427387904) (c : Bool) (hc : decide (a = b) = c) :
    Calls Tryd.prog 10 #[.agg #[.bool na, .slice ao la ca], .agg #[.bool nb, .slice bo lb cb]] w fun e w' => e = .returned (.bool c) ∧ Below w.heap.size w w' := by
  refine (eqint_any na nb ao bo la ca lb cb _ _ w hx.row hy.row hl).mono fun e w' h => ?_
  have e1 : (decide (na = nb) && decide (mag a.natAbs = mag b.natAbs)) = c := by
    rw [← hc]
    by_cases h1 : a = b
    · subst h1; rw [hx.sg, hy.sg]; simp
    · rw [decide_eq_false h1]
      by_cases h2 : na = nb
      · have h3 : ¬ mag a.natAbs = mag b.natAbs := fun h3 => by
          have := limbs_inj (q := 18446744073709551616) (by decide) h3
          have e1 := sgn_of hx.sg; have e2 := sgn_of hy.sg
          rw [this, h2] at e1
          exact h1 (e1.symm.trans e2)
        simp [h3]
      · simp [h2]
  rw [e1] at h; exact h

theorem mag_len_small {v : Int} (h : v.natAbs < 18446744073709551616) : (mag v.natAbs).length ≤ 1 := mag_len_one h

set_option maxRecDepth 100000 in
set_option maxHeartbeats 1000000 in
theorem wakes_any (w : World) : Calls Tryd.prog 12 #[] w fun e w' => e = .returned (.bool true) ∧ Below w.heap.size w w' := by
  go_enter Tryd.func12, Tryd.ntmps12
  go_wp2_with (first
    | (go_at_call_of 24 (Value.int IntKind.i64 5); refine (from_any 5 _ (by decide) (by decide)).mono ?_; rintro e w1 ⟨n1, ao1, l1, c1, rfl, hs1, ho1, hb1⟩; have H1 : Hid (IntAt w1 n1 ao1 l1 c1 5 ∧ l1 ≤ 1) := ⟨ho1.int hs1, by (rw [ho1.row.hlen]; exact mag_len_small (by decide))⟩; clear hs1 ho1)
    | (go_at_call 24; refine (from_any (-12) _ (by decide) (by decide)).mono ?_; rintro e w2 ⟨n2, ao2, l2, c2, rfl, hs2, ho2, hb2⟩; have H2 : Hid (IntAt w2 n2 ao2 l2 c2 (-12) ∧ l2 ≤ 1) := ⟨ho2.int hs2, by (rw [ho2.row.hlen]; exact mag_len_small (by decide))⟩; clear hs2 ho2)
    | (go_at_call 23; refine (add_any n1 n2 ao1 ao2 l1 c1 l2 c2 5 (-12) _ (H1.out.1.later hb2) H2.out.1 (by have := H1.out.2; omega) (by have := H2.out.2; omega)).mono ?_; rintro e w3 ⟨n3, ao3, l3, c3, rfl, hs3, ho3, hb3⟩; have H3 : Hid (IntAt w3 n3 ao3 l3 c3 (-7) ∧ l3 ≤ 1) := ⟨ho3.int hs3, by (rw [ho3.row.hlen]; exact mag_len_small (by decide))⟩; clear hs3 ho3))
  obtain ⟨W0, hW0⟩ : ∃ W0, W0 = w3.alloc (.cells #[.bool n3, .slice ao3 l3 c3] 30) := ⟨_, rfl⟩
  rw [← hW0]
  have hbW : Below w3.heap.size w3 W0 := by rw [hW0]; exact (Below.refl _ _).alloc (Nat.le_refl _) _
  have hsz : W0.heap.size = w3.heap.size + 1 := by rw [hW0]; simp
  have hbx : Boxed W0 w3.heap.size n3 ao3 l3 c3 := by rw [hW0]; exact ⟨by simp [go_sem], by simp [go_sem]⟩
  have KS : Hid (∀ w' : World, Below W0.heap.size W0 w' → (Below W0.heap.size W0 w' ∧ w'.cell? ⟨w3.heap.size, 0, none⟩ = some (.bool n3) ∧ w'.cell? ⟨w3.heap.size, 1, none⟩ = some (.slice ao3 l3 c3))) := fun w' h => ⟨h, hbx.later h (by omega)⟩
  have K1 : Hid (∀ w1 w2 : World, (Below W0.heap.size W0 w1 ∧ w1.cell? ⟨w3.heap.size, 0, none⟩ = some (.bool n3) ∧ w1.cell? ⟨w3.heap.size, 1, none⟩ = some (.slice ao3 l3 c3)) → Below w1.heap.size w1 w2 → (Below W0.heap.size W0 w2 ∧ w2.cell? ⟨w3.heap.size, 0, none⟩ = some (.bool n3) ∧ w2.cell? ⟨w3.heap.size, 1, none⟩ = some (.slice ao3 l3 c3))) := fun w1 w2 h hb => KS.out _ (bnext h.1 hb)
  have HB : Hid (Below w.heap.size w W0) := bnext (bnext (bnext (bnext hb1 hb2) hb3) hbW) (Below.refl _ _)
  have H4 : Hid (IntAt W0 n3 ao3 l3 c3 (-7)) := H3.out.1.later hbW
  clear hW0 hbx hb1 hb2 hb3 hbW
  go_region_held3 (fun w' => Below W0.heap.size W0 w' ∧ w'.cell? ⟨w3.heap.size, 0, none⟩ = some (.bool n3) ∧ w'.cell? ⟨w3.heap.size, 1, none⟩ = some (.slice ao3 l3 c3))
    (first
      | exact KS.out _ (Below.refl _ _).drew
      | exact K1.out _ _ (by assumption) (by assumption)
      | assumption)
    (first
      | (go_at_call 9; refine (num_any 0 _).mono ?_; rintro e w5 ⟨rfl, rfl⟩)
      | (go_at_call 25; refine (rfrom_any (-7) _ (by decide) (by decide)).mono ?_; rintro e w6 ⟨n6, ao6, l6, c6, rfl, hs6, ho6, hb6⟩; have H6 : Hid (IntAt w6 n6 ao6 l6 c6 (-7)) := ho6.int hs6; clear hs6 ho6)
      | (go_at_call 10; refine (eqint_at n3 n6 ao3 ao6 l3 c3 l6 c6 (-7) (-7) _ (H4.out.later (And.left (by assumption))) H6.out (by have := H3.out.2; omega) true (by decide)).mono ?_; rintro e w7 ⟨rfl, hb7⟩))
  go_wp2
  go_ret
  exact ⟨rfl, bnext HB.out (And.left (by assumption))⟩
end Go.Proofs.YtnodcfeimiimbaaDoor
