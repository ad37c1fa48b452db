/-
  Walks: the page's Divide.
-/
import Derived.Test.YtnniipekcbjloaaDoorPU20
namespace Go.Proofs.YtnniipekcbjloaaDoor
open Go.RowKit
set_option linter.unusedVariables false
set_option linter.unusedSimpArgs false
/-- what Divide has in its hands ahead of its answer -/
structure RDiv (w Z : World) (na nb nq : Bool) (ao bo qo : Option Addr) (la ca lb cb lq cq g : Nat) (a b q : Int) : Prop where
  ba : Boxed Z w.heap.size na ao la ca
  bb : Boxed Z (w.heap.size + 1) nb bo lb cb
  bq : Boxed Z g nq qo lq cq
  ia : IntAt Z na ao la ca a
  ib : IntAt Z nb bo lb cb b
  iq : IntAt Z nq qo lq cq q
  f1 : Fresh Z (w.heap.size + 1 + 1)
  f2 : Fresh Z (w.heap.size + 1 + 1 + 1)
  bz : Below w.heap.size w Z
  gz : g < Z.heap.size
  gw : w.heap.size + 4 ≤ g
  fq : ∀ j, Z.frozen? ⟨g, j, none⟩ = false
theorem RDiv.first {w W w2 Z : World} {na nb nq : Bool} {ao bo qo : Option Addr} {la ca lb cb lq cq : Nat} {a b : Int} {m : Nat} {neg : Bool} (hT : Two4 w W na nb ao bo la ca lb cb) (hb : Below W.heap.size W w2) (hx : IntAt W na ao la ca a) (hy : IntAt W nb bo lb cb b) (hm : RowAt w2 .u64 qo lq cq (mag m)) (hn : nq = (neg && decide (0 < lq))) (hZ : Z = w2.alloc (.cells #[.bool nq, .slice qo lq cq] 65)) :
    RDiv w Z na nb nq ao bo qo la ca lb cb lq cq w2.heap.size a b (sgn neg m) := by
  have hA : Below w2.heap.size w2 Z := by rw [hZ]; exact (Below.refl _ _).alloc (Nat.le_refl _) _
  have hWZ := bnext hb hA
  have hs := hT.size
  have h2 := hb.size
  refine ⟨hT.a.later hWZ (by omega), hT.b.later hWZ (by omega), ?_, hx.later hWZ, hy.later hWZ, ⟨?_, ?_⟩, hT.r.later hWZ (by omega), hT.r2.later hWZ (by omega), bnext hT.below hWZ, by rw [hZ]; simp, by omega, fun j => by rw [hZ]; simp [go_sem]⟩
  · rw [hZ]; exact ⟨by simp [go_sem], by simp [go_sem]⟩
  · rw [sgB_sgn, hn, hm.hlen]
  · rw [natAbs_sgn]; exact hm.later hA
theorem RDiv.next {w Z w4 : World} {na nb nq n4 : Bool} {ao bo qo ao4 : Option Addr} {la ca lb cb lq cq l4 c4 g : Nat} {a b q q' : Int} (h : RDiv w Z na nb nq ao bo qo la ca lb cb lq cq g a b q) (hb : Below Z.heap.size Z w4) (hi : IntAt w4 n4 ao4 l4 c4 q') :
    RDiv w ((w4.setCell ⟨g, 0, none⟩ (.bool n4)).setCell ⟨g, 1, none⟩ (.slice ao4 l4 c4)) na nb n4 ao bo ao4 la ca lb cb l4 c4 g a b q' := by
  have h1 := h.gw
  have h2 := h.gz
  have hq := h.bq.later hb (by omega)
  have hs := hb.size
  exact ⟨boxed_far (h.ba.later hb (by omega)) (by omega) _ _, boxed_far (h.bb.later hb (by omega)) (by omega) _ _, boxed_new hq, ⟨h.ia.sg, (h.ia.later hb).row.boxed hq _ _⟩, ⟨h.ib.sg, (h.ib.later hb).row.boxed hq _ _⟩, ⟨hi.sg, hi.row.boxed hq _ _⟩, fresh_far (h.f1.later hb (by omega)) (by omega) _ _, fresh_far (h.f2.later hb (by omega)) (by omega) _ _, below_store (bnext h.bz hb) (by omega) _ _, by simp; omega, h1, fun j => by rw [frozen_far, frozen_far, hb.frozen (p := ⟨g, j, none⟩) h2]; exact h.fq j⟩
theorem RDiv.last {w Z w6 : World} {na nb nq n6 : Bool} {ao bo qo ao6 : Option Addr} {la ca lb cb lq cq l6 c6 g : Nat} {a b q r : Int} (h : RDiv w Z na nb nq ao bo qo la ca lb cb lq cq g a b q) (hb : Below Z.heap.size Z w6) (hi : IntAt w6 n6 ao6 l6 c6 r) (v1 v2 v3 v4 : Value) :
    TwoRef w ((((w6.setCell ⟨w.heap.size + 1 + 1, 0, none⟩ v1).setCell ⟨w.heap.size + 1 + 1, 1, none⟩ v2).setCell ⟨w.heap.size + 1 + 1 + 1, 0, none⟩ v3).setCell ⟨w.heap.size + 1 + 1 + 1, 1, none⟩ v4) (.returned (.tuple #[.agg #[.bool nq, .slice qo lq cq], .agg #[.bool n6, .slice ao6 l6 c6]])) q r := by
  have h1 := h.gw
  have h2 := h.gz
  have f1 := h.f1.later hb (by omega)
  have f2 : ∀ x y, Fresh ((w6.setCell ⟨w.heap.size + 1 + 1, 0, none⟩ x).setCell ⟨w.heap.size + 1 + 1, 1, none⟩ y) (w.heap.size + 1 + 1 + 1) := fun x y => fresh_far (h.f2.later hb (by omega)) (by omega) _ _
  exact ⟨_, _, _, _, _, _, _, _, rfl, ⟨h.iq.sg, ((h.iq.later hb).row.kept f1 _ _).kept (f2 _ _) _ _⟩, ⟨hi.sg, (hi.row.kept f1 _ _).kept (f2 _ _) _ _⟩, below_store (below_store (bnext h.bz hb) (by omega) _ _) (by omega) _ _⟩
theorem sgn_less (m : Nat) : sgn true m - 1 = sgn true (m + 1) := by simp only [sgn, if_true]; omega
theorem mag_one_len : (mag 1).length ≤ 1 := mag_len_le (by decide)
set_option maxRecDepth 100000 in
set_option maxHeartbeats 400000 in
theorem rdivide_ff (ao bo : Option Addr) (la ca lb cb : Nat) (a b : Int) (w : World) (hx : IntAt w false ao la ca a) (hy : IntAt w false bo lb cb b) (hl : la ≤ 1048576) (hl' : lb ≤ 1048576) (h0 : b ≠ 0) :
    Calls Tryd.prog 65 #[.agg #[.bool false, .slice ao la ca], .agg #[.bool false, .slice bo lb cb]] w fun e w' => ∃ q r, FloorOf a b q r ∧ TwoRef w w' e q r := by
  obtain ⟨W, hT⟩ := Two4.mk' w false false ao bo la ca lb cb
  have hsz := hT.size
  have HF : Hid (FloorOf a b (sgn false (a.natAbs / b.natAbs)) (sgn false (a.natAbs % b.natAbs))) := (floor_math (na := false) (nb := false) hx.sg hy.sg h0).1 (Or.inl rfl)
  have hb0 : 0 < b.natAbs := by omega
  have hRx := hx.later hT.below
  have hRy := hy.later hT.below
  have HG : Hid ((mag (a.natAbs / b.natAbs)).length ≤ la ∧ (mag (a.natAbs % b.natAbs)).length ≤ lb) :=
    ⟨by rw [hx.row.hlen]; exact mag_len_mono (Nat.div_le_self _ _), by rw [hy.row.hlen]; exact mag_len_mono (Nat.le_of_lt (Nat.mod_lt _ hb0))⟩
  clear hx hy
  go_enter Tryd.func65, Tryd.ntmps65
  go_wp2_with (first
    | (go_at_call 78; rw [← hT.eq]; refine (ndivide_any ao bo la ca lb cb a.natAbs b.natAbs _ hRx.row hRy.row (by omega) (by omega) hb0).mono ?_; rintro e w1 ⟨mo, lm, cm, ro, lr, cr, rfl, hM1, hR1, hb1⟩; have hlm : lm ≤ la := (by rw [hM1.hlen]; exact HG.out.1); obtain ⟨p0, p1⟩ := hT.a.later hb1 (by omega); obtain ⟨p2, p3⟩ := hT.b.later hb1 (by omega))
    | (go_at_call 66; refine (made_any false mo lm cm _ (by omega)).mono ?_; rintro e w2 ⟨rfl, hb2⟩; clear p0 p1 p2 p3; have hs1 := hb1.size; have hs2 := hb2.size; have k0 : w.heap.size < w2.heap.size := (by omega); have k1 : w.heap.size + 1 < w2.heap.size := (by omega); have k2 : ¬ w.heap.size = w2.heap.size := (by omega); have k3 : ¬ w.heap.size + 1 = w2.heap.size := (by omega); obtain ⟨p0, p1⟩ := hT.a.later (bnext hb1 hb2) (by omega); obtain ⟨p2, p3⟩ := hT.b.later (bnext hb1 hb2) (by omega)))
  obtain ⟨Z, hZ⟩ : ∃ Z, Z = w2.alloc (.cells #[.bool (false), .slice mo lm cm] 65) := ⟨_, rfl⟩
  rw [← hZ]
  obtain ⟨nq, hnq⟩ : ∃ nq : Bool, nq = (false) := ⟨_, rfl⟩
  have HZ1 : Hid (RDiv w Z false false nq ao bo mo la ca lb cb lm cm w2.heap.size a b (sgn false (a.natAbs / b.natAbs))) := RDiv.first hT (bnext hb1 hb2) hRx hRy (hM1.later hb2) (by rw [hnq]; simp) (by rw [hnq]; exact hZ)
  clear hZ hnq p0 p1 p2 p3 k0 k1 k2 k3 hM1 hR1 hb1 hb2 hs1 hs2 hT hRx hRy
  obtain ⟨g, hg⟩ : ∃ g, w2.heap.size = g := ⟨_, rfl⟩
  rw [hg] at HZ1
  rw [hg]
  clear hg
  have hgw : w.heap.size + 4 ≤ g := HZ1.out.gw
  have hgz : g < Z.heap.size := HZ1.out.gz
  have KS : Hid (∀ w' : World, Below Z.heap.size Z w' → (Below (w.heap.size + 2) Z w' ∧ w'.cell? ⟨w.heap.size, 0, none⟩ = some (.bool false) ∧ w'.cell? ⟨w.heap.size, 1, none⟩ = some (.slice ao la ca) ∧ w'.cell? ⟨w.heap.size + 1, 0, none⟩ = some (.bool false) ∧ w'.cell? ⟨w.heap.size + 1, 1, none⟩ = some (.slice bo lb cb) ∧ w'.cell? ⟨g, 0, none⟩ = some (.bool nq) ∧ w'.cell? ⟨g, 1, none⟩ = some (.slice mo lm cm))) := fun w' h => ⟨h.mono (by omega), (HZ1.out.ba.later h (by omega)).1, (HZ1.out.ba.later h (by omega)).2, (HZ1.out.bb.later h (by omega)).1, (HZ1.out.bb.later h (by omega)).2, (HZ1.out.bq.later h (by omega)).1, (HZ1.out.bq.later h (by omega)).2⟩
  have K1 : Hid (∀ w1 w2 : World, (Below (w.heap.size + 2) Z w1 ∧ w1.cell? ⟨w.heap.size, 0, none⟩ = some (.bool false) ∧ w1.cell? ⟨w.heap.size, 1, none⟩ = some (.slice ao la ca) ∧ w1.cell? ⟨w.heap.size + 1, 0, none⟩ = some (.bool false) ∧ w1.cell? ⟨w.heap.size + 1, 1, none⟩ = some (.slice bo lb cb) ∧ w1.cell? ⟨g, 0, none⟩ = some (.bool nq) ∧ w1.cell? ⟨g, 1, none⟩ = some (.slice mo lm cm)) → Below w1.heap.size w1 w2 → (Below (w.heap.size + 2) Z w2 ∧ w2.cell? ⟨w.heap.size, 0, none⟩ = some (.bool false) ∧ w2.cell? ⟨w.heap.size, 1, none⟩ = some (.slice ao la ca) ∧ w2.cell? ⟨w.heap.size + 1, 0, none⟩ = some (.bool false) ∧ w2.cell? ⟨w.heap.size + 1, 1, none⟩ = some (.slice bo lb cb) ∧ w2.cell? ⟨g, 0, none⟩ = some (.bool nq) ∧ w2.cell? ⟨g, 1, none⟩ = some (.slice mo lm cm))) := fun w1 w2 h hb => by
    have hz := h.1.size
    exact ⟨h.1.trans (hb.mono (by omega)), (hb.cell (p := ⟨w.heap.size, 0, none⟩) (by show w.heap.size < _; omega)).trans h.2.1, (hb.cell (p := ⟨w.heap.size, 1, none⟩) (by show w.heap.size < _; omega)).trans h.2.2.1, (hb.cell (p := ⟨w.heap.size + 1, 0, none⟩) (by show w.heap.size + 1 < _; omega)).trans h.2.2.2.1, (hb.cell (p := ⟨w.heap.size + 1, 1, none⟩) (by show w.heap.size + 1 < _; omega)).trans h.2.2.2.2.1, (hb.cell (p := ⟨g, 0, none⟩) (by show g < _; omega)).trans h.2.2.2.2.2.1, (hb.cell (p := ⟨g, 1, none⟩) (by show g < _; omega)).trans h.2.2.2.2.2.2⟩
  have K2 : Hid (∀ (w1 : World) (r : Nat) (x y : Value), (Below (w.heap.size + 2) Z w1 ∧ w1.cell? ⟨w.heap.size, 0, none⟩ = some (.bool false) ∧ w1.cell? ⟨w.heap.size, 1, none⟩ = some (.slice ao la ca) ∧ w1.cell? ⟨w.heap.size + 1, 0, none⟩ = some (.bool false) ∧ w1.cell? ⟨w.heap.size + 1, 1, none⟩ = some (.slice bo lb cb) ∧ w1.cell? ⟨g, 0, none⟩ = some (.bool nq) ∧ w1.cell? ⟨g, 1, none⟩ = some (.slice mo lm cm)) → (r = w.heap.size + 1 + 1 ∨ r = w.heap.size + 1 + 1 + 1) → (Below (w.heap.size + 2) Z ((w1.setCell ⟨r, 0, none⟩ x).setCell ⟨r, 1, none⟩ y) ∧ ((w1.setCell ⟨r, 0, none⟩ x).setCell ⟨r, 1, none⟩ y).cell? ⟨w.heap.size, 0, none⟩ = some (.bool false) ∧ ((w1.setCell ⟨r, 0, none⟩ x).setCell ⟨r, 1, none⟩ y).cell? ⟨w.heap.size, 1, none⟩ = some (.slice ao la ca) ∧ ((w1.setCell ⟨r, 0, none⟩ x).setCell ⟨r, 1, none⟩ y).cell? ⟨w.heap.size + 1, 0, none⟩ = some (.bool false) ∧ ((w1.setCell ⟨r, 0, none⟩ x).setCell ⟨r, 1, none⟩ y).cell? ⟨w.heap.size + 1, 1, none⟩ = some (.slice bo lb cb) ∧ ((w1.setCell ⟨r, 0, none⟩ x).setCell ⟨r, 1, none⟩ y).cell? ⟨g, 0, none⟩ = some (.bool nq) ∧ ((w1.setCell ⟨r, 0, none⟩ x).setCell ⟨r, 1, none⟩ y).cell? ⟨g, 1, none⟩ = some (.slice mo lm cm))) := fun w1 r x y h hr => by
    have e1 : w.heap.size ≠ r := by omega
    have e2 : w.heap.size + 1 ≠ r := by omega
    have e3 : g ≠ r := by omega
    refine ⟨below_store h.1 (by omega) _ _, ?_, ?_, ?_, ?_, ?_, ?_⟩
    · rw [cell_far e1, cell_far e1]; exact h.2.1
    · rw [cell_far e1, cell_far e1]; exact h.2.2.1
    · rw [cell_far e2, cell_far e2]; exact h.2.2.2.1
    · rw [cell_far e2, cell_far e2]; exact h.2.2.2.2.1
    · rw [cell_far e3, cell_far e3]; exact h.2.2.2.2.2.1
    · rw [cell_far e3, cell_far e3]; exact h.2.2.2.2.2.2
  go_region_held3 (fun w' => (Below (w.heap.size + 2) Z w' ∧ w'.cell? ⟨w.heap.size, 0, none⟩ = some (.bool false) ∧ w'.cell? ⟨w.heap.size, 1, none⟩ = some (.slice ao la ca) ∧ w'.cell? ⟨w.heap.size + 1, 0, none⟩ = some (.bool false) ∧ w'.cell? ⟨w.heap.size + 1, 1, none⟩ = some (.slice bo lb cb) ∧ w'.cell? ⟨g, 0, none⟩ = some (.bool nq) ∧ w'.cell? ⟨g, 1, none⟩ = some (.slice mo lm cm)))
    (first
      | exact KS.out _ (Below.refl _ _).drew
      | exact K1.out _ _ (by assumption) (by assumption)
      | exact K2.out _ _ _ _ (by assumption) (Or.inl rfl)
      | exact K2.out _ _ _ _ (by assumption) (Or.inr rfl))
    (first
      | (go_at_call 81; refine (rtimes_any nq false mo bo lm cm lb cb (sgn false (a.natAbs / b.natAbs)) b _ (HZ1.out.iq.later (Below.refl _ _).drew) (HZ1.out.ib.later (Below.refl _ _).drew) (by omega) (by omega)).mono ?_; rintro e w5 ⟨n5, ao5, l5, c5, rfl, hs5, ho5, hb5⟩; have HI5 : Hid (IntAt w5 n5 ao5 l5 c5 ((sgn false (a.natAbs / b.natAbs)) * b)) := ⟨hs5, ho5.row⟩; have hl5 : l5 ≤ 4194304 := (by rw [ho5.row.hlen, Int.natAbs_mul]; have q1 := mag_len_mul ((sgn false (a.natAbs / b.natAbs))).natAbs b.natAbs; rw [← HZ1.out.iq.row.hlen, ← HZ1.out.ib.row.hlen] at q1; omega); clear hs5 ho5)
      | (go_at_call 79; refine (rless_any false n5 ao ao5 la ca l5 c5 a ((sgn false (a.natAbs / b.natAbs)) * b) _ (HZ1.out.ia.later ((Below.refl _ _).drew.trans hb5)) HI5.out (by omega) (by omega)).mono ?_; rintro e w6 ⟨n6, ao6, l6, c6, rfl, hi6, hb6⟩; have HI6 : Hid (IntAt w6 n6 ao6 l6 c6 (a - (sgn false (a.natAbs / b.natAbs)) * b)) := hi6; clear hi6; have hbF : Below Z.heap.size Z w6 := bnext ((Below.refl _ _).drew.trans hb5) hb6; obtain ⟨g5, g3, g4⟩ := HZ1.out.f1.later hbF (by omega); obtain ⟨g8, g6, g7⟩ := HZ1.out.f2.later hbF (by omega)))
  go_wp2
  exact bodyPost_ret (v := .tuple #[.agg #[.bool nq, .slice mo lm cm], .agg #[.bool n6, .slice ao6 l6 c6]]) (by simp [results, Tryd.results65, go_sem, g3, g4, g6, g7]) rfl
    ⟨_, _, floor_rest HF.out, RDiv.last HZ1.out hbF HI6.out _ _ _ _⟩
set_option maxRecDepth 100000 in
set_option maxHeartbeats 400000 in
theorem rdivide_ft0 (ao bo : Option Addr) (la ca lb cb : Nat) (a b : Int) (w : World) (hx : IntAt w false ao la ca a) (hy : IntAt w true bo lb cb b) (hl : la ≤ 1048576) (hl' : lb ≤ 1048576) (h0 : b ≠ 0) (hr : a.natAbs % b.natAbs = 0) :
    Calls Tryd.prog 65 #[.agg #[.bool false, .slice ao la ca], .agg #[.bool true, .slice bo lb cb]] w fun e w' => ∃ q r, FloorOf a b q r ∧ TwoRef w w' e q r := by
  obtain ⟨W, hT⟩ := Two4.mk' w false true ao bo la ca lb cb
  have hsz := hT.size
  have HF : Hid (FloorOf a b (sgn true (a.natAbs / b.natAbs)) (sgn true (a.natAbs % b.natAbs))) := (floor_math (na := false) (nb := true) hx.sg hy.sg h0).1 (Or.inr hr)
  have HR : Hid (a.natAbs % b.natAbs = 0) := hr
  clear hr
  have hb0 : 0 < b.natAbs := by omega
  have hRx := hx.later hT.below
  have hRy := hy.later hT.below
  have HG : Hid ((mag (a.natAbs / b.natAbs)).length ≤ la ∧ (mag (a.natAbs % b.natAbs)).length ≤ lb) :=
    ⟨by rw [hx.row.hlen]; exact mag_len_mono (Nat.div_le_self _ _), by rw [hy.row.hlen]; exact mag_len_mono (Nat.le_of_lt (Nat.mod_lt _ hb0))⟩
  clear hx hy
  go_enter Tryd.func65, Tryd.ntmps65
  go_wp2_with (first
    | (go_at_call 78; rw [← hT.eq]; refine (ndivide_any ao bo la ca lb cb a.natAbs b.natAbs _ hRx.row hRy.row (by omega) (by omega) hb0).mono ?_; rintro e w1 ⟨mo, lm, cm, ro, lr, cr, rfl, hM1, hR1, hb1⟩; have hlm : lm ≤ la := (by rw [hM1.hlen]; exact HG.out.1); obtain rfl : lr = 0 := (by rw [hR1.hlen, HR.out]; rfl); obtain ⟨p0, p1⟩ := hT.a.later hb1 (by omega); obtain ⟨p2, p3⟩ := hT.b.later hb1 (by omega))
    | (go_at_call 66; refine (made_any true mo lm cm _ (by omega)).mono ?_; rintro e w2 ⟨rfl, hb2⟩; clear p0 p1 p2 p3; have hs1 := hb1.size; have hs2 := hb2.size; have k0 : w.heap.size < w2.heap.size := (by omega); have k1 : w.heap.size + 1 < w2.heap.size := (by omega); have k2 : ¬ w.heap.size = w2.heap.size := (by omega); have k3 : ¬ w.heap.size + 1 = w2.heap.size := (by omega); obtain ⟨p0, p1⟩ := hT.a.later (bnext hb1 hb2) (by omega); obtain ⟨p2, p3⟩ := hT.b.later (bnext hb1 hb2) (by omega)))
  obtain ⟨Z, hZ⟩ : ∃ Z, Z = w2.alloc (.cells #[.bool (decide (0 < lm)), .slice mo lm cm] 65) := ⟨_, rfl⟩
  rw [← hZ]
  obtain ⟨nq, hnq⟩ : ∃ nq : Bool, nq = (decide (0 < lm)) := ⟨_, rfl⟩
  have HZ1 : Hid (RDiv w Z false true nq ao bo mo la ca lb cb lm cm w2.heap.size a b (sgn true (a.natAbs / b.natAbs))) := RDiv.first hT (bnext hb1 hb2) hRx hRy (hM1.later hb2) (by rw [hnq]; simp) (by rw [hnq]; exact hZ)
  clear hZ hnq p0 p1 p2 p3 k0 k1 k2 k3 hM1 hR1 hb1 hb2 hs1 hs2 hT hRx hRy
  obtain ⟨g, hg⟩ : ∃ g, w2.heap.size = g := ⟨_, rfl⟩
  rw [hg] at HZ1
  rw [hg]
  clear hg
  have hgw : w.heap.size + 4 ≤ g := HZ1.out.gw
  have hgz : g < Z.heap.size := HZ1.out.gz
  have KS : Hid (∀ w' : World, Below Z.heap.size Z w' → (Below (w.heap.size + 2) Z w' ∧ w'.cell? ⟨w.heap.size, 0, none⟩ = some (.bool false) ∧ w'.cell? ⟨w.heap.size, 1, none⟩ = some (.slice ao la ca) ∧ w'.cell? ⟨w.heap.size + 1, 0, none⟩ = some (.bool true) ∧ w'.cell? ⟨w.heap.size + 1, 1, none⟩ = some (.slice bo lb cb) ∧ w'.cell? ⟨g, 0, none⟩ = some (.bool nq) ∧ w'.cell? ⟨g, 1, none⟩ = some (.slice mo lm cm))) := fun w' h => ⟨h.mono (by omega), (HZ1.out.ba.later h (by omega)).1, (HZ1.out.ba.later h (by omega)).2, (HZ1.out.bb.later h (by omega)).1, (HZ1.out.bb.later h (by omega)).2, (HZ1.out.bq.later h (by omega)).1, (HZ1.out.bq.later h (by omega)).2⟩
  have K1 : Hid (∀ w1 w2 : World, (Below (w.heap.size + 2) Z w1 ∧ w1.cell? ⟨w.heap.size, 0, none⟩ = some (.bool false) ∧ w1.cell? ⟨w.heap.size, 1, none⟩ = some (.slice ao la ca) ∧ w1.cell? ⟨w.heap.size + 1, 0, none⟩ = some (.bool true) ∧ w1.cell? ⟨w.heap.size + 1, 1, none⟩ = some (.slice bo lb cb) ∧ w1.cell? ⟨g, 0, none⟩ = some (.bool nq) ∧ w1.cell? ⟨g, 1, none⟩ = some (.slice mo lm cm)) → Below w1.heap.size w1 w2 → (Below (w.heap.size + 2) Z w2 ∧ w2.cell? ⟨w.heap.size, 0, none⟩ = some (.bool false) ∧ w2.cell? ⟨w.heap.size, 1, none⟩ = some (.slice ao la ca) ∧ w2.cell? ⟨w.heap.size + 1, 0, none⟩ = some (.bool true) ∧ w2.cell? ⟨w.heap.size + 1, 1, none⟩ = some (.slice bo lb cb) ∧ w2.cell? ⟨g, 0, none⟩ = some (.bool nq) ∧ w2.cell? ⟨g, 1, none⟩ = some (.slice mo lm cm))) := fun w1 w2 h hb => by
    have hz := h.1.size
    exact ⟨h.1.trans (hb.mono (by omega)), (hb.cell (p := ⟨w.heap.size, 0, none⟩) (by show w.heap.size < _; omega)).trans h.2.1, (hb.cell (p := ⟨w.heap.size, 1, none⟩) (by show w.heap.size < _; omega)).trans h.2.2.1, (hb.cell (p := ⟨w.heap.size + 1, 0, none⟩) (by show w.heap.size + 1 < _; omega)).trans h.2.2.2.1, (hb.cell (p := ⟨w.heap.size + 1, 1, none⟩) (by show w.heap.size + 1 < _; omega)).trans h.2.2.2.2.1, (hb.cell (p := ⟨g, 0, none⟩) (by show g < _; omega)).trans h.2.2.2.2.2.1, (hb.cell (p := ⟨g, 1, none⟩) (by show g < _; omega)).trans h.2.2.2.2.2.2⟩
  have K2 : Hid (∀ (w1 : World) (r : Nat) (x y : Value), (Below (w.heap.size + 2) Z w1 ∧ w1.cell? ⟨w.heap.size, 0, none⟩ = some (.bool false) ∧ w1.cell? ⟨w.heap.size, 1, none⟩ = some (.slice ao la ca) ∧ w1.cell? ⟨w.heap.size + 1, 0, none⟩ = some (.bool true) ∧ w1.cell? ⟨w.heap.size + 1, 1, none⟩ = some (.slice bo lb cb) ∧ w1.cell? ⟨g, 0, none⟩ = some (.bool nq) ∧ w1.cell? ⟨g, 1, none⟩ = some (.slice mo lm cm)) → (r = w.heap.size + 1 + 1 ∨ r = w.heap.size + 1 + 1 + 1) → (Below (w.heap.size + 2) Z ((w1.setCell ⟨r, 0, none⟩ x).setCell ⟨r, 1, none⟩ y) ∧ ((w1.setCell ⟨r, 0, none⟩ x).setCell ⟨r, 1, none⟩ y).cell? ⟨w.heap.size, 0, none⟩ = some (.bool false) ∧ ((w1.setCell ⟨r, 0, none⟩ x).setCell ⟨r, 1, none⟩ y).cell? ⟨w.heap.size, 1, none⟩ = some (.slice ao la ca) ∧ ((w1.setCell ⟨r, 0, none⟩ x).setCell ⟨r, 1, none⟩ y).cell? ⟨w.heap.size + 1, 0, none⟩ = some (.bool true) ∧ ((w1.setCell ⟨r, 0, none⟩ x).setCell ⟨r, 1, none⟩ y).cell? ⟨w.heap.size + 1, 1, none⟩ = some (.slice bo lb cb) ∧ ((w1.setCell ⟨r, 0, none⟩ x).setCell ⟨r, 1, none⟩ y).cell? ⟨g, 0, none⟩ = some (.bool nq) ∧ ((w1.setCell ⟨r, 0, none⟩ x).setCell ⟨r, 1, none⟩ y).cell? ⟨g, 1, none⟩ = some (.slice mo lm cm))) := fun w1 r x y h hr => by
    have e1 : w.heap.size ≠ r := by omega
    have e2 : w.heap.size + 1 ≠ r := by omega
    have e3 : g ≠ r := by omega
    refine ⟨below_store h.1 (by omega) _ _, ?_, ?_, ?_, ?_, ?_, ?_⟩
    · rw [cell_far e1, cell_far e1]; exact h.2.1
    · rw [cell_far e1, cell_far e1]; exact h.2.2.1
    · rw [cell_far e2, cell_far e2]; exact h.2.2.2.1
    · rw [cell_far e2, cell_far e2]; exact h.2.2.2.2.1
    · rw [cell_far e3, cell_far e3]; exact h.2.2.2.2.2.1
    · rw [cell_far e3, cell_far e3]; exact h.2.2.2.2.2.2
  go_region_held3 (fun w' => (Below (w.heap.size + 2) Z w' ∧ w'.cell? ⟨w.heap.size, 0, none⟩ = some (.bool false) ∧ w'.cell? ⟨w.heap.size, 1, none⟩ = some (.slice ao la ca) ∧ w'.cell? ⟨w.heap.size + 1, 0, none⟩ = some (.bool true) ∧ w'.cell? ⟨w.heap.size + 1, 1, none⟩ = some (.slice bo lb cb) ∧ w'.cell? ⟨g, 0, none⟩ = some (.bool nq) ∧ w'.cell? ⟨g, 1, none⟩ = some (.slice mo lm cm)))
    (first
      | exact KS.out _ (Below.refl _ _).drew
      | exact K1.out _ _ (by assumption) (by assumption)
      | exact K2.out _ _ _ _ (by assumption) (Or.inl rfl)
      | exact K2.out _ _ _ _ (by assumption) (Or.inr rfl))
    (first
      | (go_at_call 81; refine (rtimes_any nq true mo bo lm cm lb cb (sgn true (a.natAbs / b.natAbs)) b _ (HZ1.out.iq.later (Below.refl _ _).drew) (HZ1.out.ib.later (Below.refl _ _).drew) (by omega) (by omega)).mono ?_; rintro e w5 ⟨n5, ao5, l5, c5, rfl, hs5, ho5, hb5⟩; have HI5 : Hid (IntAt w5 n5 ao5 l5 c5 ((sgn true (a.natAbs / b.natAbs)) * b)) := ⟨hs5, ho5.row⟩; have hl5 : l5 ≤ 4194304 := (by rw [ho5.row.hlen, Int.natAbs_mul]; have q1 := mag_len_mul ((sgn true (a.natAbs / b.natAbs))).natAbs b.natAbs; rw [← HZ1.out.iq.row.hlen, ← HZ1.out.ib.row.hlen] at q1; omega); clear hs5 ho5)
      | (go_at_call 79; refine (rless_any false n5 ao ao5 la ca l5 c5 a ((sgn true (a.natAbs / b.natAbs)) * b) _ (HZ1.out.ia.later ((Below.refl _ _).drew.trans hb5)) HI5.out (by omega) (by omega)).mono ?_; rintro e w6 ⟨n6, ao6, l6, c6, rfl, hi6, hb6⟩; have HI6 : Hid (IntAt w6 n6 ao6 l6 c6 (a - (sgn true (a.natAbs / b.natAbs)) * b)) := hi6; clear hi6; have hbF : Below Z.heap.size Z w6 := bnext ((Below.refl _ _).drew.trans hb5) hb6; obtain ⟨g5, g3, g4⟩ := HZ1.out.f1.later hbF (by omega); obtain ⟨g8, g6, g7⟩ := HZ1.out.f2.later hbF (by omega)))
  go_wp2
  exact bodyPost_ret (v := .tuple #[.agg #[.bool nq, .slice mo lm cm], .agg #[.bool n6, .slice ao6 l6 c6]]) (by simp [results, Tryd.results65, go_sem, g3, g4, g6, g7]) rfl
    ⟨_, _, floor_rest HF.out, RDiv.last HZ1.out hbF HI6.out _ _ _ _⟩
set_option maxRecDepth 100000 in
set_option maxHeartbeats 400000 in
theorem rdivide_ft1 (ao bo : Option Addr) (la ca lb cb : Nat) (a b : Int) (w : World) (hx : IntAt w false ao la ca a) (hy : IntAt w true bo lb cb b) (hl : la ≤ 1048576) (hl' : lb ≤ 1048576) (h0 : b ≠ 0) (hr : a.natAbs % b.natAbs ≠ 0) :
    Calls Tryd.prog 65 #[.agg #[.bool false, .slice ao la ca], .agg #[.bool true, .slice bo lb cb]] w fun e w' => ∃ q r, FloorOf a b q r ∧ TwoRef w w' e q r := by
  obtain ⟨W, hT⟩ := Two4.mk' w false true ao bo la ca lb cb
  have hsz := hT.size
  have HF : Hid (FloorOf a b (sgn true (a.natAbs / b.natAbs) - 1) (sgn true (b.natAbs - a.natAbs % b.natAbs))) := by rw [sgn_less]; exact (floor_math (na := false) (nb := true) hx.sg hy.sg h0).2 rfl hr
  have HR : Hid (0 < a.natAbs % b.natAbs) := Nat.pos_of_ne_zero hr
  clear hr
  have hb0 : 0 < b.natAbs := by omega
  have hRx := hx.later hT.below
  have hRy := hy.later hT.below
  have HG : Hid ((mag (a.natAbs / b.natAbs)).length ≤ la ∧ (mag (a.natAbs % b.natAbs)).length ≤ lb) :=
    ⟨by rw [hx.row.hlen]; exact mag_len_mono (Nat.div_le_self _ _), by rw [hy.row.hlen]; exact mag_len_mono (Nat.le_of_lt (Nat.mod_lt _ hb0))⟩
  clear hx hy
  go_enter Tryd.func65, Tryd.ntmps65
  go_wp2_with (first
    | (go_at_call 78; rw [← hT.eq]; refine (ndivide_any ao bo la ca lb cb a.natAbs b.natAbs _ hRx.row hRy.row (by omega) (by omega) hb0).mono ?_; rintro e w1 ⟨mo, lm, cm, ro, lr, cr, rfl, hM1, hR1, hb1⟩; have hlm : lm ≤ la := (by rw [hM1.hlen]; exact HG.out.1); have hlr : 0 < (lr : Int) := (by have := mag_len_pos.2 HR.out; rw [← hR1.hlen] at this; omega); obtain ⟨p0, p1⟩ := hT.a.later hb1 (by omega); obtain ⟨p2, p3⟩ := hT.b.later hb1 (by omega))
    | (go_at_call 66; refine (made_any true mo lm cm _ (by omega)).mono ?_; rintro e w2 ⟨rfl, hb2⟩; clear p0 p1 p2 p3; have hs1 := hb1.size; have hs2 := hb2.size; have k0 : w.heap.size < w2.heap.size := (by omega); have k1 : w.heap.size + 1 < w2.heap.size := (by omega); have k2 : ¬ w.heap.size = w2.heap.size := (by omega); have k3 : ¬ w.heap.size + 1 = w2.heap.size := (by omega); obtain ⟨p0, p1⟩ := hT.a.later (bnext hb1 hb2) (by omega); obtain ⟨p2, p3⟩ := hT.b.later (bnext hb1 hb2) (by omega)))
  obtain ⟨Z, hZ⟩ : ∃ Z, Z = w2.alloc (.cells #[.bool (decide (0 < lm)), .slice mo lm cm] 65) := ⟨_, rfl⟩
  rw [← hZ]
  obtain ⟨nq, hnq⟩ : ∃ nq : Bool, nq = (decide (0 < lm)) := ⟨_, rfl⟩
  have HZ1 : Hid (RDiv w Z false true nq ao bo mo la ca lb cb lm cm w2.heap.size a b (sgn true (a.natAbs / b.natAbs))) := RDiv.first hT (bnext hb1 hb2) hRx hRy (hM1.later hb2) (by rw [hnq]; simp) (by rw [hnq]; exact hZ)
  clear hZ hnq p0 p1 p2 p3 k0 k1 k2 k3 hM1 hR1 hb1 hb2 hs1 hs2 hT hRx hRy
  obtain ⟨g, hg⟩ : ∃ g, w2.heap.size = g := ⟨_, rfl⟩
  rw [hg] at HZ1
  rw [hg]
  clear hg
  have hgz1 : g < Z.heap.size := HZ1.out.gz
  obtain ⟨z0, z1⟩ := HZ1.out.bq
  go_region_with (first
      | (go_at_call 80; refine (rfrom_any 1 _ (by decide) (by decide)).mono ?_; rintro e w3 ⟨n3, ao3, l3, c3, rfl, hs3, ho3, hb3⟩; have HI3 : Hid (IntAt w3 n3 ao3 l3 c3 1) := ⟨hs3, ho3.row⟩; have hl3 : l3 ≤ 1 := (by rw [ho3.row.hlen]; exact mag_one_len); clear hs3 ho3; obtain ⟨y0, y1⟩ := HZ1.out.bq.later ((Below.refl _ _).drew.trans hb3) hgz1)
      | (go_at_call 79; refine (rless_any nq n3 mo ao3 lm cm l3 c3 (sgn true (a.natAbs / b.natAbs)) 1 _ (HZ1.out.iq.later ((Below.refl _ _).drew.trans hb3)) HI3.out (by omega) (by omega)).mono ?_; rintro e w4 ⟨n4, ao4, l4, c4, rfl, hi4, hb4⟩; have HI4 : Hid (IntAt w4 n4 ao4 l4 c4 (sgn true (a.natAbs / b.natAbs) - 1) ∧ Below Z.heap.size Z w4) := ⟨hi4, bnext ((Below.refl _ _).drew.trans hb3) hb4⟩; have hl4 : l4 ≤ lm + 2 := (by rw [hi4.row.hlen, sgn_less, natAbs_sgn]; have q1 := mag_len_add (a.natAbs / b.natAbs) 1; have q2 := mag_one_len; have q3 := HZ1.out.iq.row.hlen; rw [natAbs_sgn] at q3; omega); clear hi4 y0 y1 z0 z1; obtain ⟨y0, y1⟩ := HZ1.out.bq.later HI4.out.2 hgz1; have hfz : ∀ j, w4.frozen? ⟨g, j, none⟩ = false := (fun j => (HI4.out.2.frozen (p := ⟨g, j, none⟩) hgz1).trans (HZ1.out.fq j))))
  all_goals
    go_wp2
    obtain ⟨Y, hY⟩ : ∃ Y, Y = (w4.setCell ⟨g, 0, none⟩ (.bool n4)).setCell ⟨g, 1, none⟩ (.slice ao4 l4 c4) := ⟨_, rfl⟩
    rw [← hY]
    have HZ2 : Hid (RDiv w Y false true n4 ao bo ao4 la ca lb cb l4 c4 g a b (sgn true (a.natAbs / b.natAbs) - 1)) := by
      rw [hY]; exact HZ1.out.next HI4.out.2 HI4.out.1
    clear hY y0 y1 hfz HZ1 HI4 hb4 HI3 hb3
    have hgw : w.heap.size + 4 ≤ g := HZ2.out.gw
    have hgz : g < Y.heap.size := HZ2.out.gz
    have KS : Hid (∀ w' : World, Below Y.heap.size Y w' → (Below (w.heap.size + 2) Y w' ∧ w'.cell? ⟨w.heap.size, 0, none⟩ = some (.bool false) ∧ w'.cell? ⟨w.heap.size, 1, none⟩ = some (.slice ao la ca) ∧ w'.cell? ⟨w.heap.size + 1, 0, none⟩ = some (.bool true) ∧ w'.cell? ⟨w.heap.size + 1, 1, none⟩ = some (.slice bo lb cb) ∧ w'.cell? ⟨g, 0, none⟩ = some (.bool n4) ∧ w'.cell? ⟨g, 1, none⟩ = some (.slice ao4 l4 c4))) := fun w' h => ⟨h.mono (by omega), (HZ2.out.ba.later h (by omega)).1, (HZ2.out.ba.later h (by omega)).2, (HZ2.out.bb.later h (by omega)).1, (HZ2.out.bb.later h (by omega)).2, (HZ2.out.bq.later h (by omega)).1, (HZ2.out.bq.later h (by omega)).2⟩
    have K1 : Hid (∀ w1 w2 : World, (Below (w.heap.size + 2) Y w1 ∧ w1.cell? ⟨w.heap.size, 0, none⟩ = some (.bool false) ∧ w1.cell? ⟨w.heap.size, 1, none⟩ = some (.slice ao la ca) ∧ w1.cell? ⟨w.heap.size + 1, 0, none⟩ = some (.bool true) ∧ w1.cell? ⟨w.heap.size + 1, 1, none⟩ = some (.slice bo lb cb) ∧ w1.cell? ⟨g, 0, none⟩ = some (.bool n4) ∧ w1.cell? ⟨g, 1, none⟩ = some (.slice ao4 l4 c4)) → Below w1.heap.size w1 w2 → (Below (w.heap.size + 2) Y w2 ∧ w2.cell? ⟨w.heap.size, 0, none⟩ = some (.bool false) ∧ w2.cell? ⟨w.heap.size, 1, none⟩ = some (.slice ao la ca) ∧ w2.cell? ⟨w.heap.size + 1, 0, none⟩ = some (.bool true) ∧ w2.cell? ⟨w.heap.size + 1, 1, none⟩ = some (.slice bo lb cb) ∧ w2.cell? ⟨g, 0, none⟩ = some (.bool n4) ∧ w2.cell? ⟨g, 1, none⟩ = some (.slice ao4 l4 c4))) := fun w1 w2 h hb => by
      have hz := h.1.size
      exact ⟨h.1.trans (hb.mono (by omega)), (hb.cell (p := ⟨w.heap.size, 0, none⟩) (by show w.heap.size < _; omega)).trans h.2.1, (hb.cell (p := ⟨w.heap.size, 1, none⟩) (by show w.heap.size < _; omega)).trans h.2.2.1, (hb.cell (p := ⟨w.heap.size + 1, 0, none⟩) (by show w.heap.size + 1 < _; omega)).trans h.2.2.2.1, (hb.cell (p := ⟨w.heap.size + 1, 1, none⟩) (by show w.heap.size + 1 < _; omega)).trans h.2.2.2.2.1, (hb.cell (p := ⟨g, 0, none⟩) (by show g < _; omega)).trans h.2.2.2.2.2.1, (hb.cell (p := ⟨g, 1, none⟩) (by show g < _; omega)).trans h.2.2.2.2.2.2⟩
    have K2 : Hid (∀ (w1 : World) (r : Nat) (x y : Value), (Below (w.heap.size + 2) Y w1 ∧ w1.cell? ⟨w.heap.size, 0, none⟩ = some (.bool false) ∧ w1.cell? ⟨w.heap.size, 1, none⟩ = some (.slice ao la ca) ∧ w1.cell? ⟨w.heap.size + 1, 0, none⟩ = some (.bool true) ∧ w1.cell? ⟨w.heap.size + 1, 1, none⟩ = some (.slice bo lb cb) ∧ w1.cell? ⟨g, 0, none⟩ = some (.bool n4) ∧ w1.cell? ⟨g, 1, none⟩ = some (.slice ao4 l4 c4)) → (r = w.heap.size + 1 + 1 ∨ r = w.heap.size + 1 + 1 + 1) → (Below (w.heap.size + 2) Y ((w1.setCell ⟨r, 0, none⟩ x).setCell ⟨r, 1, none⟩ y) ∧ ((w1.setCell ⟨r, 0, none⟩ x).setCell ⟨r, 1, none⟩ y).cell? ⟨w.heap.size, 0, none⟩ = some (.bool false) ∧ ((w1.setCell ⟨r, 0, none⟩ x).setCell ⟨r, 1, none⟩ y).cell? ⟨w.heap.size, 1, none⟩ = some (.slice ao la ca) ∧ ((w1.setCell ⟨r, 0, none⟩ x).setCell ⟨r, 1, none⟩ y).cell? ⟨w.heap.size + 1, 0, none⟩ = some (.bool true) ∧ ((w1.setCell ⟨r, 0, none⟩ x).setCell ⟨r, 1, none⟩ y).cell? ⟨w.heap.size + 1, 1, none⟩ = some (.slice bo lb cb) ∧ ((w1.setCell ⟨r, 0, none⟩ x).setCell ⟨r, 1, none⟩ y).cell? ⟨g, 0, none⟩ = some (.bool n4) ∧ ((w1.setCell ⟨r, 0, none⟩ x).setCell ⟨r, 1, none⟩ y).cell? ⟨g, 1, none⟩ = some (.slice ao4 l4 c4))) := fun w1 r x y h hr => by
      have e1 : w.heap.size ≠ r := by omega
      have e2 : w.heap.size + 1 ≠ r := by omega
      have e3 : g ≠ r := by omega
      refine ⟨below_store h.1 (by omega) _ _, ?_, ?_, ?_, ?_, ?_, ?_⟩
      · rw [cell_far e1, cell_far e1]; exact h.2.1
      · rw [cell_far e1, cell_far e1]; exact h.2.2.1
      · rw [cell_far e2, cell_far e2]; exact h.2.2.2.1
      · rw [cell_far e2, cell_far e2]; exact h.2.2.2.2.1
      · rw [cell_far e3, cell_far e3]; exact h.2.2.2.2.2.1
      · rw [cell_far e3, cell_far e3]; exact h.2.2.2.2.2.2
    go_region_held3 (fun w' => (Below (w.heap.size + 2) Y w' ∧ w'.cell? ⟨w.heap.size, 0, none⟩ = some (.bool false) ∧ w'.cell? ⟨w.heap.size, 1, none⟩ = some (.slice ao la ca) ∧ w'.cell? ⟨w.heap.size + 1, 0, none⟩ = some (.bool true) ∧ w'.cell? ⟨w.heap.size + 1, 1, none⟩ = some (.slice bo lb cb) ∧ w'.cell? ⟨g, 0, none⟩ = some (.bool n4) ∧ w'.cell? ⟨g, 1, none⟩ = some (.slice ao4 l4 c4)))
      (first
        | exact KS.out _ (Below.refl _ _).drew
        | exact K1.out _ _ (by assumption) (by assumption)
        | exact K2.out _ _ _ _ (by assumption) (Or.inl rfl)
        | exact K2.out _ _ _ _ (by assumption) (Or.inr rfl))
      (first
        | (go_at_call 81; refine (rtimes_any n4 true ao4 bo l4 c4 lb cb (sgn true (a.natAbs / b.natAbs) - 1) b _ (HZ2.out.iq.later (Below.refl _ _).drew) (HZ2.out.ib.later (Below.refl _ _).drew) (by omega) (by omega)).mono ?_; rintro e w5 ⟨n5, ao5, l5, c5, rfl, hs5, ho5, hb5⟩; have HI5 : Hid (IntAt w5 n5 ao5 l5 c5 ((sgn true (a.natAbs / b.natAbs) - 1) * b)) := ⟨hs5, ho5.row⟩; have hl5 : l5 ≤ 4194304 := (by rw [ho5.row.hlen, Int.natAbs_mul]; have q1 := mag_len_mul ((sgn true (a.natAbs / b.natAbs) - 1)).natAbs b.natAbs; rw [← HZ2.out.iq.row.hlen, ← HZ2.out.ib.row.hlen] at q1; omega); clear hs5 ho5)
        | (go_at_call 79; refine (rless_any false n5 ao ao5 la ca l5 c5 a ((sgn true (a.natAbs / b.natAbs) - 1) * b) _ (HZ2.out.ia.later ((Below.refl _ _).drew.trans hb5)) HI5.out (by omega) (by omega)).mono ?_; rintro e w6 ⟨n6, ao6, l6, c6, rfl, hi6, hb6⟩; have HI6 : Hid (IntAt w6 n6 ao6 l6 c6 (a - (sgn true (a.natAbs / b.natAbs) - 1) * b)) := hi6; clear hi6; have hbF : Below Y.heap.size Y w6 := bnext ((Below.refl _ _).drew.trans hb5) hb6; obtain ⟨g5, g3, g4⟩ := HZ2.out.f1.later hbF (by omega); obtain ⟨g8, g6, g7⟩ := HZ2.out.f2.later hbF (by omega)))
    go_wp2
    exact bodyPost_ret (v := .tuple #[.agg #[.bool n4, .slice ao4 l4 c4], .agg #[.bool n6, .slice ao6 l6 c6]]) (by simp [results, Tryd.results65, go_sem, g3, g4, g6, g7]) rfl
      ⟨_, _, floor_rest HF.out, RDiv.last HZ2.out hbF HI6.out _ _ _ _⟩
set_option maxRecDepth 100000 in
set_option maxHeartbeats 400000 in
theorem rdivide_tf0 (ao bo : Option Addr) (la ca lb cb : Nat) (a b : Int) (w : World) (hx : IntAt w true ao la ca a) (hy : IntAt w false bo lb cb b) (hl : la ≤ 1048576) (hl' : lb ≤ 1048576) (h0 : b ≠ 0) (hr : a.natAbs % b.natAbs = 0) :
    Calls Tryd.prog 65 #[.agg #[.bool true, .slice ao la ca], .agg #[.bool false, .slice bo lb cb]] w fun e w' => ∃ q r, FloorOf a b q r ∧ TwoRef w w' e q r := by
  obtain ⟨W, hT⟩ := Two4.mk' w true false ao bo la ca lb cb
  have hsz := hT.size
  have HF : Hid (FloorOf a b (sgn true (a.natAbs / b.natAbs)) (sgn false (a.natAbs % b.natAbs))) := (floor_math (na := true) (nb := false) hx.sg hy.sg h0).1 (Or.inr hr)
  have HR : Hid (a.natAbs % b.natAbs = 0) := hr
  clear hr
  have hb0 : 0 < b.natAbs := by omega
  have hRx := hx.later hT.below
  have hRy := hy.later hT.below
  have HG : Hid ((mag (a.natAbs / b.natAbs)).length ≤ la ∧ (mag (a.natAbs % b.natAbs)).length ≤ lb) :=
    ⟨by rw [hx.row.hlen]; exact mag_len_mono (Nat.div_le_self _ _), by rw [hy.row.hlen]; exact mag_len_mono (Nat.le_of_lt (Nat.mod_lt _ hb0))⟩
  clear hx hy
  go_enter Tryd.func65, Tryd.ntmps65
  go_wp2_with (first
    | (go_at_call 78; rw [← hT.eq]; refine (ndivide_any ao bo la ca lb cb a.natAbs b.natAbs _ hRx.row hRy.row (by omega) (by omega) hb0).mono ?_; rintro e w1 ⟨mo, lm, cm, ro, lr, cr, rfl, hM1, hR1, hb1⟩; have hlm : lm ≤ la := (by rw [hM1.hlen]; exact HG.out.1); obtain rfl : lr = 0 := (by rw [hR1.hlen, HR.out]; rfl); obtain ⟨p0, p1⟩ := hT.a.later hb1 (by omega); obtain ⟨p2, p3⟩ := hT.b.later hb1 (by omega))
    | (go_at_call 66; refine (made_any true mo lm cm _ (by omega)).mono ?_; rintro e w2 ⟨rfl, hb2⟩; clear p0 p1 p2 p3; have hs1 := hb1.size; have hs2 := hb2.size; have k0 : w.heap.size < w2.heap.size := (by omega); have k1 : w.heap.size + 1 < w2.heap.size := (by omega); have k2 : ¬ w.heap.size = w2.heap.size := (by omega); have k3 : ¬ w.heap.size + 1 = w2.heap.size := (by omega); obtain ⟨p0, p1⟩ := hT.a.later (bnext hb1 hb2) (by omega); obtain ⟨p2, p3⟩ := hT.b.later (bnext hb1 hb2) (by omega)))
  obtain ⟨Z, hZ⟩ : ∃ Z, Z = w2.alloc (.cells #[.bool (decide (0 < lm)), .slice mo lm cm] 65) := ⟨_, rfl⟩
  rw [← hZ]
  obtain ⟨nq, hnq⟩ : ∃ nq : Bool, nq = (decide (0 < lm)) := ⟨_, rfl⟩
  have HZ1 : Hid (RDiv w Z true false nq ao bo mo la ca lb cb lm cm w2.heap.size a b (sgn true (a.natAbs / b.natAbs))) := RDiv.first hT (bnext hb1 hb2) hRx hRy (hM1.later hb2) (by rw [hnq]; simp) (by rw [hnq]; exact hZ)
  clear hZ hnq p0 p1 p2 p3 k0 k1 k2 k3 hM1 hR1 hb1 hb2 hs1 hs2 hT hRx hRy
  obtain ⟨g, hg⟩ : ∃ g, w2.heap.size = g := ⟨_, rfl⟩
  rw [hg] at HZ1
  rw [hg]
  clear hg
  have hgw : w.heap.size + 4 ≤ g := HZ1.out.gw
  have hgz : g < Z.heap.size := HZ1.out.gz
  have KS : Hid (∀ w' : World, Below Z.heap.size Z w' → (Below (w.heap.size + 2) Z w' ∧ w'.cell? ⟨w.heap.size, 0, none⟩ = some (.bool true) ∧ w'.cell? ⟨w.heap.size, 1, none⟩ = some (.slice ao la ca) ∧ w'.cell? ⟨w.heap.size + 1, 0, none⟩ = some (.bool false) ∧ w'.cell? ⟨w.heap.size + 1, 1, none⟩ = some (.slice bo lb cb) ∧ w'.cell? ⟨g, 0, none⟩ = some (.bool nq) ∧ w'.cell? ⟨g, 1, none⟩ = some (.slice mo lm cm))) := fun w' h => ⟨h.mono (by omega), (HZ1.out.ba.later h (by omega)).1, (HZ1.out.ba.later h (by omega)).2, (HZ1.out.bb.later h (by omega)).1, (HZ1.out.bb.later h (by omega)).2, (HZ1.out.bq.later h (by omega)).1, (HZ1.out.bq.later h (by omega)).2⟩
  have K1 : Hid (∀ w1 w2 : World, (Below (w.heap.size + 2) Z w1 ∧ w1.cell? ⟨w.heap.size, 0, none⟩ = some (.bool true) ∧ w1.cell? ⟨w.heap.size, 1, none⟩ = some (.slice ao la ca) ∧ w1.cell? ⟨w.heap.size + 1, 0, none⟩ = some (.bool false) ∧ w1.cell? ⟨w.heap.size + 1, 1, none⟩ = some (.slice bo lb cb) ∧ w1.cell? ⟨g, 0, none⟩ = some (.bool nq) ∧ w1.cell? ⟨g, 1, none⟩ = some (.slice mo lm cm)) → Below w1.heap.size w1 w2 → (Below (w.heap.size + 2) Z w2 ∧ w2.cell? ⟨w.heap.size, 0, none⟩ = some (.bool true) ∧ w2.cell? ⟨w.heap.size, 1, none⟩ = some (.slice ao la ca) ∧ w2.cell? ⟨w.heap.size + 1, 0, none⟩ = some (.bool false) ∧ w2.cell? ⟨w.heap.size + 1, 1, none⟩ = some (.slice bo lb cb) ∧ w2.cell? ⟨g, 0, none⟩ = some (.bool nq) ∧ w2.cell? ⟨g, 1, none⟩ = some (.slice mo lm cm))) := fun w1 w2 h hb => by
    have hz := h.1.size
    exact ⟨h.1.trans (hb.mono (by omega)), (hb.cell (p := ⟨w.heap.size, 0, none⟩) (by show w.heap.size < _; omega)).trans h.2.1, (hb.cell (p := ⟨w.heap.size, 1, none⟩) (by show w.heap.size < _; omega)).trans h.2.2.1, (hb.cell (p := ⟨w.heap.size + 1, 0, none⟩) (by show w.heap.size + 1 < _; omega)).trans h.2.2.2.1, (hb.cell (p := ⟨w.heap.size + 1, 1, none⟩) (by show w.heap.size + 1 < _; omega)).trans h.2.2.2.2.1, (hb.cell (p := ⟨g, 0, none⟩) (by show g < _; omega)).trans h.2.2.2.2.2.1, (hb.cell (p := ⟨g, 1, none⟩) (by show g < _; omega)).trans h.2.2.2.2.2.2⟩
  have K2 : Hid (∀ (w1 : World) (r : Nat) (x y : Value), (Below (w.heap.size + 2) Z w1 ∧ w1.cell? ⟨w.heap.size, 0, none⟩ = some (.bool true) ∧ w1.cell? ⟨w.heap.size, 1, none⟩ = some (.slice ao la ca) ∧ w1.cell? ⟨w.heap.size + 1, 0, none⟩ = some (.bool false) ∧ w1.cell? ⟨w.heap.size + 1, 1, none⟩ = some (.slice bo lb cb) ∧ w1.cell? ⟨g, 0, none⟩ = some (.bool nq) ∧ w1.cell? ⟨g, 1, none⟩ = some (.slice mo lm cm)) → (r = w.heap.size + 1 + 1 ∨ r = w.heap.size + 1 + 1 + 1) → (Below (w.heap.size + 2) Z ((w1.setCell ⟨r, 0, none⟩ x).setCell ⟨r, 1, none⟩ y) ∧ ((w1.setCell ⟨r, 0, none⟩ x).setCell ⟨r, 1, none⟩ y).cell? ⟨w.heap.size, 0, none⟩ = some (.bool true) ∧ ((w1.setCell ⟨r, 0, none⟩ x).setCell ⟨r, 1, none⟩ y).cell? ⟨w.heap.size, 1, none⟩ = some (.slice ao la ca) ∧ ((w1.setCell ⟨r, 0, none⟩ x).setCell ⟨r, 1, none⟩ y).cell? ⟨w.heap.size + 1, 0, none⟩ = some (.bool false) ∧ ((w1.setCell ⟨r, 0, none⟩ x).setCell ⟨r, 1, none⟩ y).cell? ⟨w.heap.size + 1, 1, none⟩ = some (.slice bo lb cb) ∧ ((w1.setCell ⟨r, 0, none⟩ x).setCell ⟨r, 1, none⟩ y).cell? ⟨g, 0, none⟩ = some (.bool nq) ∧ ((w1.setCell ⟨r, 0, none⟩ x).setCell ⟨r, 1, none⟩ y).cell? ⟨g, 1, none⟩ = some (.slice mo lm cm))) := fun w1 r x y h hr => by
    have e1 : w.heap.size ≠ r := by omega
    have e2 : w.heap.size + 1 ≠ r := by omega
    have e3 : g ≠ r := by omega
    refine ⟨below_store h.1 (by omega) _ _, ?_, ?_, ?_, ?_, ?_, ?_⟩
    · rw [cell_far e1, cell_far e1]; exact h.2.1
    · rw [cell_far e1, cell_far e1]; exact h.2.2.1
    · rw [cell_far e2, cell_far e2]; exact h.2.2.2.1
    · rw [cell_far e2, cell_far e2]; exact h.2.2.2.2.1
    · rw [cell_far e3, cell_far e3]; exact h.2.2.2.2.2.1
    · rw [cell_far e3, cell_far e3]; exact h.2.2.2.2.2.2
  go_region_held3 (fun w' => (Below (w.heap.size + 2) Z w' ∧ w'.cell? ⟨w.heap.size, 0, none⟩ = some (.bool true) ∧ w'.cell? ⟨w.heap.size, 1, none⟩ = some (.slice ao la ca) ∧ w'.cell? ⟨w.heap.size + 1, 0, none⟩ = some (.bool false) ∧ w'.cell? ⟨w.heap.size + 1, 1, none⟩ = some (.slice bo lb cb) ∧ w'.cell? ⟨g, 0, none⟩ = some (.bool nq) ∧ w'.cell? ⟨g, 1, none⟩ = some (.slice mo lm cm)))
    (first
      | exact KS.out _ (Below.refl _ _).drew
      | exact K1.out _ _ (by assumption) (by assumption)
      | exact K2.out _ _ _ _ (by assumption) (Or.inl rfl)
      | exact K2.out _ _ _ _ (by assumption) (Or.inr rfl))
    (first
      | (go_at_call 81; refine (rtimes_any nq false mo bo lm cm lb cb (sgn true (a.natAbs / b.natAbs)) b _ (HZ1.out.iq.later (Below.refl _ _).drew) (HZ1.out.ib.later (Below.refl _ _).drew) (by omega) (by omega)).mono ?_; rintro e w5 ⟨n5, ao5, l5, c5, rfl, hs5, ho5, hb5⟩; have HI5 : Hid (IntAt w5 n5 ao5 l5 c5 ((sgn true (a.natAbs / b.natAbs)) * b)) := ⟨hs5, ho5.row⟩; have hl5 : l5 ≤ 4194304 := (by rw [ho5.row.hlen, Int.natAbs_mul]; have q1 := mag_len_mul ((sgn true (a.natAbs / b.natAbs))).natAbs b.natAbs; rw [← HZ1.out.iq.row.hlen, ← HZ1.out.ib.row.hlen] at q1; omega); clear hs5 ho5)
      | (go_at_call 79; refine (rless_any true n5 ao ao5 la ca l5 c5 a ((sgn true (a.natAbs / b.natAbs)) * b) _ (HZ1.out.ia.later ((Below.refl _ _).drew.trans hb5)) HI5.out (by omega) (by omega)).mono ?_; rintro e w6 ⟨n6, ao6, l6, c6, rfl, hi6, hb6⟩; have HI6 : Hid (IntAt w6 n6 ao6 l6 c6 (a - (sgn true (a.natAbs / b.natAbs)) * b)) := hi6; clear hi6; have hbF : Below Z.heap.size Z w6 := bnext ((Below.refl _ _).drew.trans hb5) hb6; obtain ⟨g5, g3, g4⟩ := HZ1.out.f1.later hbF (by omega); obtain ⟨g8, g6, g7⟩ := HZ1.out.f2.later hbF (by omega)))
  go_wp2
  exact bodyPost_ret (v := .tuple #[.agg #[.bool nq, .slice mo lm cm], .agg #[.bool n6, .slice ao6 l6 c6]]) (by simp [results, Tryd.results65, go_sem, g3, g4, g6, g7]) rfl
    ⟨_, _, floor_rest HF.out, RDiv.last HZ1.out hbF HI6.out _ _ _ _⟩
set_option maxRecDepth 100000 in
set_option maxHeartbeats 400000 in
theorem rdivide_tf1 (ao bo : Option Addr) (la ca lb cb : Nat) (a b : Int) (w : World) (hx : IntAt w true ao la ca a) (hy : IntAt w false bo lb cb b) (hl : la ≤ 1048576) (hl' : lb ≤ 1048576) (h0 : b ≠ 0) (hr : a.natAbs % b.natAbs ≠ 0) :
    Calls Tryd.prog 65 #[.agg #[.bool true, .slice ao la ca], .agg #[.bool false, .slice bo lb cb]] w fun e w' => ∃ q r, FloorOf a b q r ∧ TwoRef w w' e q r := by
  obtain ⟨W, hT⟩ := Two4.mk' w true false ao bo la ca lb cb
  have hsz := hT.size
  have HF : Hid (FloorOf a b (sgn true (a.natAbs / b.natAbs) - 1) (sgn false (b.natAbs - a.natAbs % b.natAbs))) := by rw [sgn_less]; exact (floor_math (na := true) (nb := false) hx.sg hy.sg h0).2 rfl hr
  have HR : Hid (0 < a.natAbs % b.natAbs) := Nat.pos_of_ne_zero hr
  clear hr
  have hb0 : 0 < b.natAbs := by omega
  have hRx := hx.later hT.below
  have hRy := hy.later hT.below
  have HG : Hid ((mag (a.natAbs / b.natAbs)).length ≤ la ∧ (mag (a.natAbs % b.natAbs)).length ≤ lb) :=
    ⟨by rw [hx.row.hlen]; exact mag_len_mono (Nat.div_le_self _ _), by rw [hy.row.hlen]; exact mag_len_mono (Nat.le_of_lt (Nat.mod_lt _ hb0))⟩
  clear hx hy
  go_enter Tryd.func65, Tryd.ntmps65
  go_wp2_with (first
    | (go_at_call 78; rw [← hT.eq]; refine (ndivide_any ao bo la ca lb cb a.natAbs b.natAbs _ hRx.row hRy.row (by omega) (by omega) hb0).mono ?_; rintro e w1 ⟨mo, lm, cm, ro, lr, cr, rfl, hM1, hR1, hb1⟩; have hlm : lm ≤ la := (by rw [hM1.hlen]; exact HG.out.1); have hlr : 0 < (lr : Int) := (by have := mag_len_pos.2 HR.out; rw [← hR1.hlen] at this; omega); obtain ⟨p0, p1⟩ := hT.a.later hb1 (by omega); obtain ⟨p2, p3⟩ := hT.b.later hb1 (by omega))
    | (go_at_call 66; refine (made_any true mo lm cm _ (by omega)).mono ?_; rintro e w2 ⟨rfl, hb2⟩; clear p0 p1 p2 p3; have hs1 := hb1.size; have hs2 := hb2.size; have k0 : w.heap.size < w2.heap.size := (by omega); have k1 : w.heap.size + 1 < w2.heap.size := (by omega); have k2 : ¬ w.heap.size = w2.heap.size := (by omega); have k3 : ¬ w.heap.size + 1 = w2.heap.size := (by omega); obtain ⟨p0, p1⟩ := hT.a.later (bnext hb1 hb2) (by omega); obtain ⟨p2, p3⟩ := hT.b.later (bnext hb1 hb2) (by omega)))
  obtain ⟨Z, hZ⟩ : ∃ Z, Z = w2.alloc (.cells #[.bool (decide (0 < lm)), .slice mo lm cm] 65) := ⟨_, rfl⟩
  rw [← hZ]
  obtain ⟨nq, hnq⟩ : ∃ nq : Bool, nq = (decide (0 < lm)) := ⟨_, rfl⟩
  have HZ1 : Hid (RDiv w Z true false nq ao bo mo la ca lb cb lm cm w2.heap.size a b (sgn true (a.natAbs / b.natAbs))) := RDiv.first hT (bnext hb1 hb2) hRx hRy (hM1.later hb2) (by rw [hnq]; simp) (by rw [hnq]; exact hZ)
  clear hZ hnq p0 p1 p2 p3 k0 k1 k2 k3 hM1 hR1 hb1 hb2 hs1 hs2 hT hRx hRy
  obtain ⟨g, hg⟩ : ∃ g, w2.heap.size = g := ⟨_, rfl⟩
  rw [hg] at HZ1
  rw [hg]
  clear hg
  have hgz1 : g < Z.heap.size := HZ1.out.gz
  obtain ⟨z0, z1⟩ := HZ1.out.bq
  go_region_with (first
      | (go_at_call 80; refine (rfrom_any 1 _ (by decide) (by decide)).mono ?_; rintro e w3 ⟨n3, ao3, l3, c3, rfl, hs3, ho3, hb3⟩; have HI3 : Hid (IntAt w3 n3 ao3 l3 c3 1) := ⟨hs3, ho3.row⟩; have hl3 : l3 ≤ 1 := (by rw [ho3.row.hlen]; exact mag_one_len); clear hs3 ho3; obtain ⟨y0, y1⟩ := HZ1.out.bq.later ((Below.refl _ _).drew.trans hb3) hgz1)
      | (go_at_call 79; refine (rless_any nq n3 mo ao3 lm cm l3 c3 (sgn true (a.natAbs / b.natAbs)) 1 _ (HZ1.out.iq.later ((Below.refl _ _).drew.trans hb3)) HI3.out (by omega) (by omega)).mono ?_; rintro e w4 ⟨n4, ao4, l4, c4, rfl, hi4, hb4⟩; have HI4 : Hid (IntAt w4 n4 ao4 l4 c4 (sgn true (a.natAbs / b.natAbs) - 1) ∧ Below Z.heap.size Z w4) := ⟨hi4, bnext ((Below.refl _ _).drew.trans hb3) hb4⟩; have hl4 : l4 ≤ lm + 2 := (by rw [hi4.row.hlen, sgn_less, natAbs_sgn]; have q1 := mag_len_add (a.natAbs / b.natAbs) 1; have q2 := mag_one_len; have q3 := HZ1.out.iq.row.hlen; rw [natAbs_sgn] at q3; omega); clear hi4 y0 y1 z0 z1; obtain ⟨y0, y1⟩ := HZ1.out.bq.later HI4.out.2 hgz1; have hfz : ∀ j, w4.frozen? ⟨g, j, none⟩ = false := (fun j => (HI4.out.2.frozen (p := ⟨g, j, none⟩) hgz1).trans (HZ1.out.fq j))))
  all_goals
    go_wp2
    obtain ⟨Y, hY⟩ : ∃ Y, Y = (w4.setCell ⟨g, 0, none⟩ (.bool n4)).setCell ⟨g, 1, none⟩ (.slice ao4 l4 c4) := ⟨_, rfl⟩
    rw [← hY]
    have HZ2 : Hid (RDiv w Y true false n4 ao bo ao4 la ca lb cb l4 c4 g a b (sgn true (a.natAbs / b.natAbs) - 1)) := by
      rw [hY]; exact HZ1.out.next HI4.out.2 HI4.out.1
    clear hY y0 y1 hfz HZ1 HI4 hb4 HI3 hb3
    have hgw : w.heap.size + 4 ≤ g := HZ2.out.gw
    have hgz : g < Y.heap.size := HZ2.out.gz
    have KS : Hid (∀ w' : World, Below Y.heap.size Y w' → (Below (w.heap.size + 2) Y w' ∧ w'.cell? ⟨w.heap.size, 0, none⟩ = some (.bool true) ∧ w'.cell? ⟨w.heap.size, 1, none⟩ = some (.slice ao la ca) ∧ w'.cell? ⟨w.heap.size + 1, 0, none⟩ = some (.bool false) ∧ w'.cell? ⟨w.heap.size + 1, 1, none⟩ = some (.slice bo lb cb) ∧ w'.cell? ⟨g, 0, none⟩ = some (.bool n4) ∧ w'.cell? ⟨g, 1, none⟩ = some (.slice ao4 l4 c4))) := fun w' h => ⟨h.mono (by omega), (HZ2.out.ba.later h (by omega)).1, (HZ2.out.ba.later h (by omega)).2, (HZ2.out.bb.later h (by omega)).1, (HZ2.out.bb.later h (by omega)).2, (HZ2.out.bq.later h (by omega)).1, (HZ2.out.bq.later h (by omega)).2⟩
    have K1 : Hid (∀ w1 w2 : World, (Below (w.heap.size + 2) Y w1 ∧ w1.cell? ⟨w.heap.size, 0, none⟩ = some (.bool true) ∧ w1.cell? ⟨w.heap.size, 1, none⟩ = some (.slice ao la ca) ∧ w1.cell? ⟨w.heap.size + 1, 0, none⟩ = some (.bool false) ∧ w1.cell? ⟨w.heap.size + 1, 1, none⟩ = some (.slice bo lb cb) ∧ w1.cell? ⟨g, 0, none⟩ = some (.bool n4) ∧ w1.cell? ⟨g, 1, none⟩ = some (.slice ao4 l4 c4)) → Below w1.heap.size w1 w2 → (Below (w.heap.size + 2) Y w2 ∧ w2.cell? ⟨w.heap.size, 0, none⟩ = some (.bool true) ∧ w2.cell? ⟨w.heap.size, 1, none⟩ = some (.slice ao la ca) ∧ w2.cell? ⟨w.heap.size + 1, 0, none⟩ = some (.bool false) ∧ w2.cell? ⟨w.heap.size + 1, 1, none⟩ = some (.slice bo lb cb) ∧ w2.cell? ⟨g, 0, none⟩ = some (.bool n4) ∧ w2.cell? ⟨g, 1, none⟩ = some (.slice ao4 l4 c4))) := fun w1 w2 h hb => by
      have hz := h.1.size
      exact ⟨h.1.trans (hb.mono (by omega)), (hb.cell (p := ⟨w.heap.size, 0, none⟩) (by show w.heap.size < _; omega)).trans h.2.1, (hb.cell (p := ⟨w.heap.size, 1, none⟩) (by show w.heap.size < _; omega)).trans h.2.2.1, (hb.cell (p := ⟨w.heap.size + 1, 0, none⟩) (by show w.heap.size + 1 < _; omega)).trans h.2.2.2.1, (hb.cell (p := ⟨w.heap.size + 1, 1, none⟩) (by show w.heap.size + 1 < _; omega)).trans h.2.2.2.2.1, (hb.cell (p := ⟨g, 0, none⟩) (by show g < _; omega)).trans h.2.2.2.2.2.1, (hb.cell (p := ⟨g, 1, none⟩) (by show g < _; omega)).trans h.2.2.2.2.2.2⟩
    have K2 : Hid (∀ (w1 : World) (r : Nat) (x y : Value), (Below (w.heap.size + 2) Y w1 ∧ w1.cell? ⟨w.heap.size, 0, none⟩ = some (.bool true) ∧ w1.cell? ⟨w.heap.size, 1, none⟩ = some (.slice ao la ca) ∧ w1.cell? ⟨w.heap.size + 1, 0, none⟩ = some (.bool false) ∧ w1.cell? ⟨w.heap.size + 1, 1, none⟩ = some (.slice bo lb cb) ∧ w1.cell? ⟨g, 0, none⟩ = some (.bool n4) ∧ w1.cell? ⟨g, 1, none⟩ = some (.slice ao4 l4 c4)) → (r = w.heap.size + 1 + 1 ∨ r = w.heap.size + 1 + 1 + 1) → (Below (w.heap.size + 2) Y ((w1.setCell ⟨r, 0, none⟩ x).setCell ⟨r, 1, none⟩ y) ∧ ((w1.setCell ⟨r, 0, none⟩ x).setCell ⟨r, 1, none⟩ y).cell? ⟨w.heap.size, 0, none⟩ = some (.bool true) ∧ ((w1.setCell ⟨r, 0, none⟩ x).setCell ⟨r, 1, none⟩ y).cell? ⟨w.heap.size, 1, none⟩ = some (.slice ao la ca) ∧ ((w1.setCell ⟨r, 0, none⟩ x).setCell ⟨r, 1, none⟩ y).cell? ⟨w.heap.size + 1, 0, none⟩ = some (.bool false) ∧ ((w1.setCell ⟨r, 0, none⟩ x).setCell ⟨r, 1, none⟩ y).cell? ⟨w.heap.size + 1, 1, none⟩ = some (.slice bo lb cb) ∧ ((w1.setCell ⟨r, 0, none⟩ x).setCell ⟨r, 1, none⟩ y).cell? ⟨g, 0, none⟩ = some (.bool n4) ∧ ((w1.setCell ⟨r, 0, none⟩ x).setCell ⟨r, 1, none⟩ y).cell? ⟨g, 1, none⟩ = some (.slice ao4 l4 c4))) := fun w1 r x y h hr => by
      have e1 : w.heap.size ≠ r := by omega
      have e2 : w.heap.size + 1 ≠ r := by omega
      have e3 : g ≠ r := by omega
      refine ⟨below_store h.1 (by omega) _ _, ?_, ?_, ?_, ?_, ?_, ?_⟩
      · rw [cell_far e1, cell_far e1]; exact h.2.1
      · rw [cell_far e1, cell_far e1]; exact h.2.2.1
      · rw [cell_far e2, cell_far e2]; exact h.2.2.2.1
      · rw [cell_far e2, cell_far e2]; exact h.2.2.2.2.1
      · rw [cell_far e3, cell_far e3]; exact h.2.2.2.2.2.1
      · rw [cell_far e3, cell_far e3]; exact h.2.2.2.2.2.2
    go_region_held3 (fun w' => (Below (w.heap.size + 2) Y w' ∧ w'.cell? ⟨w.heap.size, 0, none⟩ = some (.bool true) ∧ w'.cell? ⟨w.heap.size, 1, none⟩ = some (.slice ao la ca) ∧ w'.cell? ⟨w.heap.size + 1, 0, none⟩ = some (.bool false) ∧ w'.cell? ⟨w.heap.size + 1, 1, none⟩ = some (.slice bo lb cb) ∧ w'.cell? ⟨g, 0, none⟩ = some (.bool n4) ∧ w'.cell? ⟨g, 1, none⟩ = some (.slice ao4 l4 c4)))
      (first
        | exact KS.out _ (Below.refl _ _).drew
        | exact K1.out _ _ (by assumption) (by assumption)
        | exact K2.out _ _ _ _ (by assumption) (Or.inl rfl)
        | exact K2.out _ _ _ _ (by assumption) (Or.inr rfl))
      (first
        | (go_at_call 81; refine (rtimes_any n4 false ao4 bo l4 c4 lb cb (sgn true (a.natAbs / b.natAbs) - 1) b _ (HZ2.out.iq.later (Below.refl _ _).drew) (HZ2.out.ib.later (Below.refl _ _).drew) (by omega) (by omega)).mono ?_; rintro e w5 ⟨n5, ao5, l5, c5, rfl, hs5, ho5, hb5⟩; have HI5 : Hid (IntAt w5 n5 ao5 l5 c5 ((sgn true (a.natAbs / b.natAbs) - 1) * b)) := ⟨hs5, ho5.row⟩; have hl5 : l5 ≤ 4194304 := (by rw [ho5.row.hlen, Int.natAbs_mul]; have q1 := mag_len_mul ((sgn true (a.natAbs / b.natAbs) - 1)).natAbs b.natAbs; rw [← HZ2.out.iq.row.hlen, ← HZ2.out.ib.row.hlen] at q1; omega); clear hs5 ho5)
        | (go_at_call 79; refine (rless_any true n5 ao ao5 la ca l5 c5 a ((sgn true (a.natAbs / b.natAbs) - 1) * b) _ (HZ2.out.ia.later ((Below.refl _ _).drew.trans hb5)) HI5.out (by omega) (by omega)).mono ?_; rintro e w6 ⟨n6, ao6, l6, c6, rfl, hi6, hb6⟩; have HI6 : Hid (IntAt w6 n6 ao6 l6 c6 (a - (sgn true (a.natAbs / b.natAbs) - 1) * b)) := hi6; clear hi6; have hbF : Below Y.heap.size Y w6 := bnext ((Below.refl _ _).drew.trans hb5) hb6; obtain ⟨g5, g3, g4⟩ := HZ2.out.f1.later hbF (by omega); obtain ⟨g8, g6, g7⟩ := HZ2.out.f2.later hbF (by omega)))
    go_wp2
    exact bodyPost_ret (v := .tuple #[.agg #[.bool n4, .slice ao4 l4 c4], .agg #[.bool n6, .slice ao6 l6 c6]]) (by simp [results, Tryd.results65, go_sem, g3, g4, g6, g7]) rfl
      ⟨_, _, floor_rest HF.out, RDiv.last HZ2.out hbF HI6.out _ _ _ _⟩
set_option maxRecDepth 100000 in
set_option maxHeartbeats 400000 in
theorem rdivide_tt (ao bo : Option Addr) (la ca lb cb : Nat) (a b : Int) (w : World) (hx : IntAt w true ao la ca a) (hy : IntAt w true bo lb cb b) (hl : la ≤ 1048576) (hl' : lb ≤ 1048576) (h0 : b ≠ 0) :
    Calls Tryd.prog 65 #[.agg #[.bool true, .slice ao la ca], .agg #[.bool true, .slice bo lb cb]] w fun e w' => ∃ q r, FloorOf a b q r ∧ TwoRef w w' e q r := by
  obtain ⟨W, hT⟩ := Two4.mk' w true true ao bo la ca lb cb
  have hsz := hT.size
  have HF : Hid (FloorOf a b (sgn false (a.natAbs / b.natAbs)) (sgn true (a.natAbs % b.natAbs))) := (floor_math (na := true) (nb := true) hx.sg hy.sg h0).1 (Or.inl rfl)
  have hb0 : 0 < b.natAbs := by omega
  have hRx := hx.later hT.below
  have hRy := hy.later hT.below
  have HG : Hid ((mag (a.natAbs / b.natAbs)).length ≤ la ∧ (mag (a.natAbs % b.natAbs)).length ≤ lb) :=
    ⟨by rw [hx.row.hlen]; exact mag_len_mono (Nat.div_le_self _ _), by rw [hy.row.hlen]; exact mag_len_mono (Nat.le_of_lt (Nat.mod_lt _ hb0))⟩
  clear hx hy
  go_enter Tryd.func65, Tryd.ntmps65
  go_wp2_with (first
    | (go_at_call 78; rw [← hT.eq]; refine (ndivide_any ao bo la ca lb cb a.natAbs b.natAbs _ hRx.row hRy.row (by omega) (by omega) hb0).mono ?_; rintro e w1 ⟨mo, lm, cm, ro, lr, cr, rfl, hM1, hR1, hb1⟩; have hlm : lm ≤ la := (by rw [hM1.hlen]; exact HG.out.1); obtain ⟨p0, p1⟩ := hT.a.later hb1 (by omega); obtain ⟨p2, p3⟩ := hT.b.later hb1 (by omega))
    | (go_at_call 66; refine (made_any false mo lm cm _ (by omega)).mono ?_; rintro e w2 ⟨rfl, hb2⟩; clear p0 p1 p2 p3; have hs1 := hb1.size; have hs2 := hb2.size; have k0 : w.heap.size < w2.heap.size := (by omega); have k1 : w.heap.size + 1 < w2.heap.size := (by omega); have k2 : ¬ w.heap.size = w2.heap.size := (by omega); have k3 : ¬ w.heap.size + 1 = w2.heap.size := (by omega); obtain ⟨p0, p1⟩ := hT.a.later (bnext hb1 hb2) (by omega); obtain ⟨p2, p3⟩ := hT.b.later (bnext hb1 hb2) (by omega)))
  obtain ⟨Z, hZ⟩ : ∃ Z, Z = w2.alloc (.cells #[.bool (false), .slice mo lm cm] 65) := ⟨_, rfl⟩
  rw [← hZ]
  obtain ⟨nq, hnq⟩ : ∃ nq : Bool, nq = (false) := ⟨_, rfl⟩
  have HZ1 : Hid (RDiv w Z true true nq ao bo mo la ca lb cb lm cm w2.heap.size a b (sgn false (a.natAbs / b.natAbs))) := RDiv.first hT (bnext hb1 hb2) hRx hRy (hM1.later hb2) (by rw [hnq]; simp) (by rw [hnq]; exact hZ)
  clear hZ hnq p0 p1 p2 p3 k0 k1 k2 k3 hM1 hR1 hb1 hb2 hs1 hs2 hT hRx hRy
  obtain ⟨g, hg⟩ : ∃ g, w2.heap.size = g := ⟨_, rfl⟩
  rw [hg] at HZ1
  rw [hg]
  clear hg
  have hgw : w.heap.size + 4 ≤ g := HZ1.out.gw
  have hgz : g < Z.heap.size := HZ1.out.gz
  have KS : Hid (∀ w' : World, Below Z.heap.size Z w' → (Below (w.heap.size + 2) Z w' ∧ w'.cell? ⟨w.heap.size, 0, none⟩ = some (.bool true) ∧ w'.cell? ⟨w.heap.size, 1, none⟩ = some (.slice ao la ca) ∧ w'.cell? ⟨w.heap.size + 1, 0, none⟩ = some (.bool true) ∧ w'.cell? ⟨w.heap.size + 1, 1, none⟩ = some (.slice bo lb cb) ∧ w'.cell? ⟨g, 0, none⟩ = some (.bool nq) ∧ w'.cell? ⟨g, 1, none⟩ = some (.slice mo lm cm))) := fun w' h => ⟨h.mono (by omega), (HZ1.out.ba.later h (by omega)).1, (HZ1.out.ba.later h (by omega)).2, (HZ1.out.bb.later h (by omega)).1, (HZ1.out.bb.later h (by omega)).2, (HZ1.out.bq.later h (by omega)).1, (HZ1.out.bq.later h (by omega)).2⟩
  have K1 : Hid (∀ w1 w2 : World, (Below (w.heap.size + 2) Z w1 ∧ w1.cell? ⟨w.heap.size, 0, none⟩ = some (.bool true) ∧ w1.cell? ⟨w.heap.size, 1, none⟩ = some (.slice ao la ca) ∧ w1.cell? ⟨w.heap.size + 1, 0, none⟩ = some (.bool true) ∧ w1.cell? ⟨w.heap.size + 1, 1, none⟩ = some (.slice bo lb cb) ∧ w1.cell? ⟨g, 0, none⟩ = some (.bool nq) ∧ w1.cell? ⟨g, 1, none⟩ = some (.slice mo lm cm)) → Below w1.heap.size w1 w2 → (Below (w.heap.size + 2) Z w2 ∧ w2.cell? ⟨w.heap.size, 0, none⟩ = some (.bool true) ∧ w2.cell? ⟨w.heap.size, 1, none⟩ = some (.slice ao la ca) ∧ w2.cell? ⟨w.heap.size + 1, 0, none⟩ = some (.bool true) ∧ w2.cell? ⟨w.heap.size + 1, 1, none⟩ = some (.slice bo lb cb) ∧ w2.cell? ⟨g, 0, none⟩ = some (.bool nq) ∧ w2.cell? ⟨g, 1, none⟩ = some (.slice mo lm cm))) := fun w1 w2 h hb => by
    have hz := h.1.size
    exact ⟨h.1.trans (hb.mono (by omega)), (hb.cell (p := ⟨w.heap.size, 0, none⟩) (by show w.heap.size < _; omega)).trans h.2.1, (hb.cell (p := ⟨w.heap.size, 1, none⟩) (by show w.heap.size < _; omega)).trans h.2.2.1, (hb.cell (p := ⟨w.heap.size + 1, 0, none⟩) (by show w.heap.size + 1 < _; omega)).trans h.2.2.2.1, (hb.cell (p := ⟨w.heap.size + 1, 1, none⟩) (by show w.heap.size + 1 < _; omega)).trans h.2.2.2.2.1, (hb.cell (p := ⟨g, 0, none⟩) (by show g < _; omega)).trans h.2.2.2.2.2.1, (hb.cell (p := ⟨g, 1, none⟩) (by show g < _; omega)).trans h.2.2.2.2.2.2⟩
  have K2 : Hid (∀ (w1 : World) (r : Nat) (x y : Value), (Below (w.heap.size + 2) Z w1 ∧ w1.cell? ⟨w.heap.size, 0, none⟩ = some (.bool true) ∧ w1.cell? ⟨w.heap.size, 1, none⟩ = some (.slice ao la ca) ∧ w1.cell? ⟨w.heap.size + 1, 0, none⟩ = some (.bool true) ∧ w1.cell? ⟨w.heap.size + 1, 1, none⟩ = some (.slice bo lb cb) ∧ w1.cell? ⟨g, 0, none⟩ = some (.bool nq) ∧ w1.cell? ⟨g, 1, none⟩ = some (.slice mo lm cm)) → (r = w.heap.size + 1 + 1 ∨ r = w.heap.size + 1 + 1 + 1) → (Below (w.heap.size + 2) Z ((w1.setCell ⟨r, 0, none⟩ x).setCell ⟨r, 1, none⟩ y) ∧ ((w1.setCell ⟨r, 0, none⟩ x).setCell ⟨r, 1, none⟩ y).cell? ⟨w.heap.size, 0, none⟩ = some (.bool true) ∧ ((w1.setCell ⟨r, 0, none⟩ x).setCell ⟨r, 1, none⟩ y).cell? ⟨w.heap.size, 1, none⟩ = some (.slice ao la ca) ∧ ((w1.setCell ⟨r, 0, none⟩ x).setCell ⟨r, 1, none⟩ y).cell? ⟨w.heap.size + 1, 0, none⟩ = some (.bool true) ∧ ((w1.setCell ⟨r, 0, none⟩ x).setCell ⟨r, 1, none⟩ y).cell? ⟨w.heap.size + 1, 1, none⟩ = some (.slice bo lb cb) ∧ ((w1.setCell ⟨r, 0, none⟩ x).setCell ⟨r, 1, none⟩ y).cell? ⟨g, 0, none⟩ = some (.bool nq) ∧ ((w1.setCell ⟨r, 0, none⟩ x).setCell ⟨r, 1, none⟩ y).cell? ⟨g, 1, none⟩ = some (.slice mo lm cm))) := fun w1 r x y h hr => by
    have e1 : w.heap.size ≠ r := by omega
    have e2 : w.heap.size + 1 ≠ r := by omega
    have e3 : g ≠ r := by omega
    refine ⟨below_store h.1 (by omega) _ _, ?_, ?_, ?_, ?_, ?_, ?_⟩
    · rw [cell_far e1, cell_far e1]; exact h.2.1
    · rw [cell_far e1, cell_far e1]; exact h.2.2.1
    · rw [cell_far e2, cell_far e2]; exact h.2.2.2.1
    · rw [cell_far e2, cell_far e2]; exact h.2.2.2.2.1
    · rw [cell_far e3, cell_far e3]; exact h.2.2.2.2.2.1
    · rw [cell_far e3, cell_far e3]; exact h.2.2.2.2.2.2
  go_region_held3 (fun w' => (Below (w.heap.size + 2) Z w' ∧ w'.cell? ⟨w.heap.size, 0, none⟩ = some (.bool true) ∧ w'.cell? ⟨w.heap.size, 1, none⟩ = some (.slice ao la ca) ∧ w'.cell? ⟨w.heap.size + 1, 0, none⟩ = some (.bool true) ∧ w'.cell? ⟨w.heap.size + 1, 1, none⟩ = some (.slice bo lb cb) ∧ w'.cell? ⟨g, 0, none⟩ = some (.bool nq) ∧ w'.cell? ⟨g, 1, none⟩ = some (.slice mo lm cm)))
    (first
      | exact KS.out _ (Below.refl _ _).drew
      | exact K1.out _ _ (by assumption) (by assumption)
      | exact K2.out _ _ _ _ (by assumption) (Or.inl rfl)
      | exact K2.out _ _ _ _ (by assumption) (Or.inr rfl))
    (first
      | (go_at_call 81; refine (rtimes_any nq true mo bo lm cm lb cb (sgn false (a.natAbs / b.natAbs)) b _ (HZ1.out.iq.later (Below.refl _ _).drew) (HZ1.out.ib.later (Below.refl _ _).drew) (by omega) (by omega)).mono ?_; rintro e w5 ⟨n5, ao5, l5, c5, rfl, hs5, ho5, hb5⟩; have HI5 : Hid (IntAt w5 n5 ao5 l5 c5 ((sgn false (a.natAbs / b.natAbs)) * b)) := ⟨hs5, ho5.row⟩; have hl5 : l5 ≤ 4194304 := (by rw [ho5.row.hlen, Int.natAbs_mul]; have q1 := mag_len_mul ((sgn false (a.natAbs / b.natAbs))).natAbs b.natAbs; rw [← HZ1.out.iq.row.hlen, ← HZ1.out.ib.row.hlen] at q1; omega); clear hs5 ho5)
      | (go_at_call 79; refine (rless_any true n5 ao ao5 la ca l5 c5 a ((sgn false (a.natAbs / b.natAbs)) * b) _ (HZ1.out.ia.later ((Below.refl _ _).drew.trans hb5)) HI5.out (by omega) (by omega)).mono ?_; rintro e w6 ⟨n6, ao6, l6, c6, rfl, hi6, hb6⟩; have HI6 : Hid (IntAt w6 n6 ao6 l6 c6 (a - (sgn false (a.natAbs / b.natAbs)) * b)) := hi6; clear hi6; have hbF : Below Z.heap.size Z w6 := bnext ((Below.refl _ _).drew.trans hb5) hb6; obtain ⟨g5, g3, g4⟩ := HZ1.out.f1.later hbF (by omega); obtain ⟨g8, g6, g7⟩ := HZ1.out.f2.later hbF (by omega)))
  go_wp2
  exact bodyPost_ret (v := .tuple #[.agg #[.bool nq, .slice mo lm cm], .agg #[.bool n6, .slice ao6 l6 c6]]) (by simp [results, Tryd.results65, go_sem, g3, g4, g6, g7]) rfl
    ⟨_, _, floor_rest HF.out, RDiv.last HZ1.out hbF HI6.out _ _ _ _⟩
theorem rdivide_any (na nb : Bool) (ao bo : Option Addr) (la ca lb cb : Nat) (a b : Int) (w : World) (hx : IntAt w na ao la ca a) (hy : IntAt w nb bo lb cb b) (hl : la ≤ 1048576) (hl' : lb ≤ 1048576) (h0 : b ≠ 0) :
    Calls Tryd.prog 65 #[.agg #[.bool na, .slice ao la ca], .agg #[.bool nb, .slice bo lb cb]] w fun e w' => ∃ q r, FloorOf a b q r ∧ TwoRef w w' e q r := by
  cases na <;> cases nb
  · exact rdivide_ff ao bo la ca lb cb a b w hx hy hl hl' h0
  · by_cases hr : a.natAbs % b.natAbs = 0
    · exact rdivide_ft0 ao bo la ca lb cb a b w hx hy hl hl' h0 hr
    · exact rdivide_ft1 ao bo la ca lb cb a b w hx hy hl hl' h0 hr
  · by_cases hr : a.natAbs % b.natAbs = 0
    · exact rdivide_tf0 ao bo la ca lb cb a b w hx hy hl hl' h0 hr
    · exact rdivide_tf1 ao bo la ca lb cb a b w hx hy hl hl' h0 hr
  · exact rdivide_tt ao bo la ca lb cb a b w hx hy hl hl' h0
end Go.Proofs.YtnniipekcbjloaaDoor
