/-
  Walks: sum.
-/
import Derived.Test.YtnodcfeimiimbaaDoorW7
namespace Go.Proofs.YtnodcfeimiimbaaDoor
open Go.RowKit
set_option linter.unusedVariables false
set_option linter.unusedSimpArgs false

set_option maxRecDepth 100000 in
set_option maxHeartbeats 1000000 in
theorem sum_same (na nb : Bool) (ao bo : Option Addr) (la ca lb cb : Nat) (a b : Int) (w : World) (hx : IntAt w na ao la ca a) (hy : IntAt w nb bo lb cb b) (hl : la ≤ 4294967296) (hl' : lb ≤ 4294967296) (hs : na = nb) :
    Calls Tryd.prog 40 #[.agg #[.bool na, .slice ao la ca], .agg #[.bool nb, .slice bo lb cb]] w fun e w' => NewInt w w' e (a + b) := by
  subst hs
  obtain ⟨W0, hW0⟩ : ∃ W0, W0 = ((w.alloc (.cells #[.bool na, .slice ao la ca] 30)).alloc (.cells #[.bool na, .slice bo lb cb] 30)).alloc (.cells #[.bool false, .slice none 0 0] 30) := ⟨_, rfl⟩
  have hbW : Below w.heap.size w W0 := by subst hW0; exact (((Below.refl _ _).alloc (Nat.le_refl _) _).alloc (by simp) _).alloc (by simp; omega) _
  have hx0 := hx.later hbW
  have hy0 := hy.later hbW
  have hsz : W0.heap.size = w.heap.size + 3 := by subst hW0; simp
  have c0 : W0.cell? ⟨w.heap.size, 0, none⟩ = some (.bool na) := by subst hW0; simp [go_sem]
  have c1 : W0.cell? ⟨w.heap.size, 1, none⟩ = some (.slice ao la ca) := by subst hW0; simp [go_sem]
  have c2 : W0.cell? ⟨w.heap.size + 1, 1, none⟩ = some (.slice bo lb cb) := by subst hW0; simp [go_sem]
  have c3 : W0.cell? ⟨w.heap.size + 1 + 1, 0, none⟩ = some (.bool false) := by subst hW0; simp [go_sem]
  have c4 : W0.cell? ⟨w.heap.size + 1 + 1, 1, none⟩ = some (.slice none 0 0) := by subst hW0; simp [go_sem]
  have f0 : ∀ j, W0.frozen? ⟨w.heap.size + 1 + 1, j, none⟩ = false := by intro j; subst hW0; simp [go_sem]
  have KS : Hid (∀ w' : World, Below (w.heap.size + 2) W0 w' → (Below (w.heap.size + 2) W0 w' ∧ w'.cell? ⟨w.heap.size, 0, none⟩ = some (.bool na) ∧ w'.cell? ⟨w.heap.size, 1, none⟩ = some (.slice ao la ca) ∧ w'.cell? ⟨w.heap.size + 1, 1, none⟩ = some (.slice bo lb cb))) := fun w' h => ⟨h, (h.cell (p := ⟨w.heap.size, 0, none⟩) (by show w.heap.size < _; omega)).trans c0, (h.cell (p := ⟨w.heap.size, 1, none⟩) (by show w.heap.size < _; omega)).trans c1, (h.cell (p := ⟨w.heap.size + 1, 1, none⟩) (by show w.heap.size + 1 < _; omega)).trans c2⟩
  have K1 : Hid (∀ w1 w2 : World, (Below (w.heap.size + 2) W0 w1 ∧ w1.cell? ⟨w.heap.size, 0, none⟩ = some (.bool na) ∧ w1.cell? ⟨w.heap.size, 1, none⟩ = some (.slice ao la ca) ∧ w1.cell? ⟨w.heap.size + 1, 1, none⟩ = some (.slice bo lb cb)) → Below w1.heap.size w1 w2 → (Below (w.heap.size + 2) W0 w2 ∧ w2.cell? ⟨w.heap.size, 0, none⟩ = some (.bool na) ∧ w2.cell? ⟨w.heap.size, 1, none⟩ = some (.slice ao la ca) ∧ w2.cell? ⟨w.heap.size + 1, 1, none⟩ = some (.slice bo lb cb))) := fun w1 w2 h hb => KS.out _ (h.1.trans (hb.mono (by have := h.1.size; omega)))
  have K2 : Hid (∀ w1 w2 : World, (Below (w.heap.size + 2) W0 w1 ∧ w1.cell? ⟨w.heap.size, 0, none⟩ = some (.bool na) ∧ w1.cell? ⟨w.heap.size, 1, none⟩ = some (.slice ao la ca) ∧ w1.cell? ⟨w.heap.size + 1, 1, none⟩ = some (.slice bo lb cb)) → Below (w.heap.size + 2) w1 w2 → (Below (w.heap.size + 2) W0 w2 ∧ w2.cell? ⟨w.heap.size, 0, none⟩ = some (.bool na) ∧ w2.cell? ⟨w.heap.size, 1, none⟩ = some (.slice ao la ca) ∧ w2.cell? ⟨w.heap.size + 1, 1, none⟩ = some (.slice bo lb cb))) := fun w1 w2 h hb => KS.out _ (h.1.trans hb)
  have KF : Hid ((∀ j, W0.frozen? ⟨w.heap.size + 1 + 1, j, none⟩ = false) ∧ W0.cell? ⟨w.heap.size + 1 + 1, 0, none⟩ = some (.bool false) ∧ W0.cell? ⟨w.heap.size + 1 + 1, 1, none⟩ = some (.slice none 0 0)) := ⟨f0, c3, c4⟩
  clear f0 c3 c4 c0 c1 c2
  go_enter Tryd.func40, Tryd.ntmps40
  go_wp2
  rw [← hW0]
  clear hW0
  go_region_held3 (fun w' => Below (w.heap.size + 2) W0 w' ∧ w'.cell? ⟨w.heap.size, 0, none⟩ = some (.bool na) ∧ w'.cell? ⟨w.heap.size, 1, none⟩ = some (.slice ao la ca) ∧ w'.cell? ⟨w.heap.size + 1, 1, none⟩ = some (.slice bo lb cb))
    (first
      | exact KS.out _ (Below.refl _ _).drew
      | exact K1.out _ _ (by assumption) (by assumption)
      | exact K2.out _ _ (by assumption) (((Below.refl _ _).setCell (by show _ ≤ w.heap.size + 1 + 1; omega) _).setCell (by show _ ≤ w.heap.size + 1 + 1; omega) _))
    (first
      | (go_at_call 30; refine (plus_any ao bo la ca lb cb a.natAbs b.natAbs _ (hx0.row.later (Below.refl _ _).drew) (hy0.row.later (Below.refl _ _).drew) hl hl').mono ?_; rintro e w1 ⟨ao1, l1, c1, rfl, ho1, hb1⟩; have hlen1 : l1 ≤ 4611686018427387904 := by (rw [ho1.row.hlen]; have := mag_len_add a.natAbs b.natAbs; rw [← hx0.row.hlen, ← hy0.row.hlen] at this; omega))
      | (go_at_call 18; refine (signed_any na ao1 l1 c1 _ hlen1).mono ?_; rintro e w2 ⟨rfl, hb2⟩; have hbA : Below W0.heap.size W0 w2 := (((Below.refl _ _).drew).trans hb1).trans (hb2.mono hb1.size); have g3 : w2.cell? ⟨w.heap.size + 1 + 1, 0, none⟩ = some (.bool false) := (hbA.cell (p := ⟨w.heap.size + 1 + 1, 0, none⟩) (by (show w.heap.size + 1 + 1 < _; omega))).trans KF.out.2.1; have g4 : w2.cell? ⟨w.heap.size + 1 + 1, 1, none⟩ = some (.slice none 0 0) := (hbA.cell (p := ⟨w.heap.size + 1 + 1, 1, none⟩) (by (show w.heap.size + 1 + 1 < _; omega))).trans KF.out.2.2; have g5 : ∀ j, w2.frozen? ⟨w.heap.size + 1 + 1, j, none⟩ = false := fun j => (hbA.frozen (p := ⟨w.heap.size + 1 + 1, j, none⟩) (by (show w.heap.size + 1 + 1 < _; omega))).trans (KF.out.1 j)))
  go_wp2
  exact bodyPost_ret (v := .agg #[.bool (na && decide (0 < l1)), .slice ao1 l1 c1]) (by simp [results, Tryd.results40, go_sem, g3, g4]) rfl
    (NewInt.ret (((ho1.later hb2).setOther (a := ⟨w.heap.size + 1 + 1, 0, none⟩) (by show _ < W0.heap.size; rw [hsz]; show w.heap.size + 1 + 1 < _; omega) _).setOther (a := ⟨w.heap.size + 1 + 1, 1, none⟩) (by show _ < W0.heap.size; rw [hsz]; show w.heap.size + 1 + 1 < _; omega) _)
      (by show _ ≤ W0.heap.size; omega) (sgn_add_same hx.sg hy.sg)
      ((((hbW.trans ((Below.refl W0.heap.size W0).drew.mono (by omega))).trans (hb1.mono (by show _ ≤ W0.heap.size; omega))).trans (hb2.mono (by have := hb1.size; have h : W0.heap.size ≤ w1.heap.size := this; omega))).setCell (by show _ ≤ w.heap.size + 1 + 1; omega) _ |>.setCell (by show _ ≤ w.heap.size + 1 + 1; omega) _))
set_option maxRecDepth 100000 in
set_option maxHeartbeats 1000000 in
theorem sum_ge (na nb : Bool) (ao bo : Option Addr) (la ca lb cb : Nat) (a b : Int) (w : World) (hx : IntAt w na ao la ca a) (hy : IntAt w nb bo lb cb b) (hl : la ≤ 4294967296) (hl' : lb ≤ 4294967296) (hs : na ≠ nb) (hle : b.natAbs ≤ a.natAbs) :
    Calls Tryd.prog 40 #[.agg #[.bool na, .slice ao la ca], .agg #[.bool nb, .slice bo lb cb]] w fun e w' => NewInt w w' e (a + b) := by
  have hs' : (na == nb) = false := by simpa using hs
  obtain ⟨cc, hcc, hcp⟩ := cmpI_ge (a := (a.natAbs : Int)) (b := (b.natAbs : Int)) (by omega)
  have HC : Hid (cmpI (a.natAbs : Int) (b.natAbs : Int) = cc ∧ b.natAbs ≤ a.natAbs) := ⟨hcc, hle⟩
  clear hcc hle
  obtain ⟨W0, hW0⟩ : ∃ W0, W0 = ((w.alloc (.cells #[.bool na, .slice ao la ca] 30)).alloc (.cells #[.bool nb, .slice bo lb cb] 30)).alloc (.cells #[.bool false, .slice none 0 0] 30) := ⟨_, rfl⟩
  have hbW : Below w.heap.size w W0 := by subst hW0; exact (((Below.refl _ _).alloc (Nat.le_refl _) _).alloc (by simp) _).alloc (by simp; omega) _
  have hx0 := hx.later hbW
  have hy0 := hy.later hbW
  have hsz : W0.heap.size = w.heap.size + 3 := by subst hW0; simp
  have c0 : W0.cell? ⟨w.heap.size, 0, none⟩ = some (.bool na) := by subst hW0; simp [go_sem]
  have c1 : W0.cell? ⟨w.heap.size, 1, none⟩ = some (.slice ao la ca) := by subst hW0; simp [go_sem]
  have c2 : W0.cell? ⟨w.heap.size + 1, 1, none⟩ = some (.slice bo lb cb) := by subst hW0; simp [go_sem]
  have c3 : W0.cell? ⟨w.heap.size + 1 + 1, 0, none⟩ = some (.bool false) := by subst hW0; simp [go_sem]
  have c4 : W0.cell? ⟨w.heap.size + 1 + 1, 1, none⟩ = some (.slice none 0 0) := by subst hW0; simp [go_sem]
  have f0 : ∀ j, W0.frozen? ⟨w.heap.size + 1 + 1, j, none⟩ = false := by intro j; subst hW0; simp [go_sem]
  have KS : Hid (∀ w' : World, Below (w.heap.size + 2) W0 w' → (Below (w.heap.size + 2) W0 w' ∧ w'.cell? ⟨w.heap.size, 0, none⟩ = some (.bool na) ∧ w'.cell? ⟨w.heap.size, 1, none⟩ = some (.slice ao la ca) ∧ w'.cell? ⟨w.heap.size + 1, 1, none⟩ = some (.slice bo lb cb))) := fun w' h => ⟨h, (h.cell (p := ⟨w.heap.size, 0, none⟩) (by show w.heap.size < _; omega)).trans c0, (h.cell (p := ⟨w.heap.size, 1, none⟩) (by show w.heap.size < _; omega)).trans c1, (h.cell (p := ⟨w.heap.size + 1, 1, none⟩) (by show w.heap.size + 1 < _; omega)).trans c2⟩
  have K1 : Hid (∀ w1 w2 : World, (Below (w.heap.size + 2) W0 w1 ∧ w1.cell? ⟨w.heap.size, 0, none⟩ = some (.bool na) ∧ w1.cell? ⟨w.heap.size, 1, none⟩ = some (.slice ao la ca) ∧ w1.cell? ⟨w.heap.size + 1, 1, none⟩ = some (.slice bo lb cb)) → Below w1.heap.size w1 w2 → (Below (w.heap.size + 2) W0 w2 ∧ w2.cell? ⟨w.heap.size, 0, none⟩ = some (.bool na) ∧ w2.cell? ⟨w.heap.size, 1, none⟩ = some (.slice ao la ca) ∧ w2.cell? ⟨w.heap.size + 1, 1, none⟩ = some (.slice bo lb cb))) := fun w1 w2 h hb => KS.out _ (h.1.trans (hb.mono (by have := h.1.size; omega)))
  have K2 : Hid (∀ w1 w2 : World, (Below (w.heap.size + 2) W0 w1 ∧ w1.cell? ⟨w.heap.size, 0, none⟩ = some (.bool na) ∧ w1.cell? ⟨w.heap.size, 1, none⟩ = some (.slice ao la ca) ∧ w1.cell? ⟨w.heap.size + 1, 1, none⟩ = some (.slice bo lb cb)) → Below (w.heap.size + 2) w1 w2 → (Below (w.heap.size + 2) W0 w2 ∧ w2.cell? ⟨w.heap.size, 0, none⟩ = some (.bool na) ∧ w2.cell? ⟨w.heap.size, 1, none⟩ = some (.slice ao la ca) ∧ w2.cell? ⟨w.heap.size + 1, 1, none⟩ = some (.slice bo lb cb))) := fun w1 w2 h hb => KS.out _ (h.1.trans hb)
  have KF : Hid ((∀ j, W0.frozen? ⟨w.heap.size + 1 + 1, j, none⟩ = false) ∧ W0.cell? ⟨w.heap.size + 1 + 1, 0, none⟩ = some (.bool false) ∧ W0.cell? ⟨w.heap.size + 1 + 1, 1, none⟩ = some (.slice none 0 0)) := ⟨f0, c3, c4⟩
  clear f0 c3 c4 c0 c1 c2
  go_enter Tryd.func40, Tryd.ntmps40
  go_wp2_with (go_at_call 45; refine (compare_at ao bo la ca lb cb a.natAbs b.natAbs _ (hx0.row.later (by subst hW0; exact Below.refl _ _)) (hy0.row.later (by subst hW0; exact Below.refl _ _)) hl hl' cc HC.out.1).mono ?_; rintro e w0 ⟨rfl, hb0⟩; rw [← hW0] at hb0)
  have hbX : Below (w.heap.size + 2) W0 w0 := hb0.mono (by omega)
  have hs0 := hb0.size
  clear hW0
  go_region_held3 (fun w' => Below (w.heap.size + 2) W0 w' ∧ w'.cell? ⟨w.heap.size, 0, none⟩ = some (.bool na) ∧ w'.cell? ⟨w.heap.size, 1, none⟩ = some (.slice ao la ca) ∧ w'.cell? ⟨w.heap.size + 1, 1, none⟩ = some (.slice bo lb cb))
    (first
      | exact KS.out _ (Below.drew hbX)
      | exact K1.out _ _ (by assumption) (by assumption)
      | exact K2.out _ _ (by assumption) (((Below.refl _ _).setCell (by show _ ≤ w.heap.size + 1 + 1; omega) _).setCell (by show _ ≤ w.heap.size + 1 + 1; omega) _))
    (first
      | (go_at_call 57; refine (minus_any ao bo la ca lb cb a.natAbs b.natAbs _ (hx0.row.later hb0.drew) (hy0.row.later hb0.drew) hl HC.out.2).mono ?_; rintro e w1 ⟨ao1, l1, c1, rfl, ho1, hb1⟩; have hlen1 : l1 ≤ 4611686018427387904 := by (rw [ho1.row.hlen]; have := mag_len_mono (Nat.sub_le a.natAbs b.natAbs); rw [← hx0.row.hlen] at this; omega))
      | (go_at_call 18; refine (signed_any na ao1 l1 c1 _ hlen1).mono ?_; rintro e w2 ⟨rfl, hb2⟩; have hbA : Below W0.heap.size W0 w2 := ((hb0.drew).trans (hb1.mono hs0)).trans (hb2.mono (Nat.le_trans hs0 hb1.size)); have g3 : w2.cell? ⟨w.heap.size + 1 + 1, 0, none⟩ = some (.bool false) := (hbA.cell (p := ⟨w.heap.size + 1 + 1, 0, none⟩) (by (show w.heap.size + 1 + 1 < _; omega))).trans KF.out.2.1; have g4 : w2.cell? ⟨w.heap.size + 1 + 1, 1, none⟩ = some (.slice none 0 0) := (hbA.cell (p := ⟨w.heap.size + 1 + 1, 1, none⟩) (by (show w.heap.size + 1 + 1 < _; omega))).trans KF.out.2.2; have g5 : ∀ j, w2.frozen? ⟨w.heap.size + 1 + 1, j, none⟩ = false := fun j => (hbA.frozen (p := ⟨w.heap.size + 1 + 1, j, none⟩) (by (show w.heap.size + 1 + 1 < _; omega))).trans (KF.out.1 j)))
  go_wp2
  exact bodyPost_ret (v := .agg #[.bool (na && decide (0 < l1)), .slice ao1 l1 c1]) (by simp [results, Tryd.results40, go_sem, g3, g4]) rfl
    (NewInt.ret (((ho1.later hb2).setOther (a := ⟨w.heap.size + 1 + 1, 0, none⟩) (by show w.heap.size + 1 + 1 < w0.heap.size; omega) _).setOther (a := ⟨w.heap.size + 1 + 1, 1, none⟩) (by show w.heap.size + 1 + 1 < w0.heap.size; omega) _)
      (by show _ ≤ w0.heap.size; omega) (sgn_add_diff hx.sg hy.sg hs HC.out.2)
      ((hbW.trans (hbA.mono (by omega))).setCell (by show _ ≤ w.heap.size + 1 + 1; omega) _ |>.setCell (by show _ ≤ w.heap.size + 1 + 1; omega) _))

set_option maxRecDepth 100000 in
set_option maxHeartbeats 1000000 in
theorem sum_lt (na nb : Bool) (ao bo : Option Addr) (la ca lb cb : Nat) (a b : Int) (w : World) (hx : IntAt w na ao la ca a) (hy : IntAt w nb bo lb cb b) (hl : la ≤ 4294967296) (hl' : lb ≤ 4294967296) (hs : na ≠ nb) (hlt : a.natAbs < b.natAbs) :
    Calls Tryd.prog 40 #[.agg #[.bool na, .slice ao la ca], .agg #[.bool nb, .slice bo lb cb]] w fun e w' => NewInt w w' e (a + b) := by
  have hs' : (na == nb) = false := by simpa using hs
  have HC : Hid (cmpI (a.natAbs : Int) (b.natAbs : Int) = -1 ∧ a.natAbs < b.natAbs) := ⟨cmpI_lt (by omega), hlt⟩
  clear hlt
  obtain ⟨Wi, hWi⟩ : ∃ Wi, Wi = ((w.alloc (.cells #[.bool na, .slice ao la ca] 30)).alloc (.cells #[.bool nb, .slice bo lb cb] 30)).alloc (.cells #[.bool false, .slice none 0 0] 30) := ⟨_, rfl⟩
  have hbW : Below w.heap.size w Wi := by subst hWi; exact (((Below.refl _ _).alloc (Nat.le_refl _) _).alloc (by simp) _).alloc (by simp; omega) _
  have hx0 := hx.later hbW
  have hy0 := hy.later hbW
  have hszi : Wi.heap.size = w.heap.size + 3 := by subst hWi; simp
  have i0 : Wi.cell? ⟨w.heap.size, 0, none⟩ = some (.bool na) := by subst hWi; simp [go_sem]
  have i1 : Wi.cell? ⟨w.heap.size, 1, none⟩ = some (.slice ao la ca) := by subst hWi; simp [go_sem]
  have i2 : Wi.cell? ⟨w.heap.size + 1, 0, none⟩ = some (.bool nb) := by subst hWi; simp [go_sem]
  have i3 : Wi.cell? ⟨w.heap.size + 1, 1, none⟩ = some (.slice bo lb cb) := by subst hWi; simp [go_sem]
  have i4 : Wi.cell? ⟨w.heap.size + 1 + 1, 0, none⟩ = some (.bool false) := by subst hWi; simp [go_sem]
  have i5 : Wi.cell? ⟨w.heap.size + 1 + 1, 1, none⟩ = some (.slice none 0 0) := by subst hWi; simp [go_sem]
  have i6 : ∀ b j, w.heap.size ≤ b → b < w.heap.size + 3 → Wi.frozen? ⟨b, j, none⟩ = false := by
    intro b j h1 h2
    rcases (show b = w.heap.size ∨ b = w.heap.size + 1 ∨ b = w.heap.size + 1 + 1 by omega) with rfl | rfl | rfl <;> subst hWi <;> simp [go_sem]
  have HI : Hid ((Wi.cell? ⟨w.heap.size, 0, none⟩ = some (.bool na) ∧ Wi.cell? ⟨w.heap.size, 1, none⟩ = some (.slice ao la ca) ∧ Wi.cell? ⟨w.heap.size + 1, 0, none⟩ = some (.bool nb) ∧ Wi.cell? ⟨w.heap.size + 1, 1, none⟩ = some (.slice bo lb cb)) ∧ Wi.cell? ⟨w.heap.size + 1 + 1, 0, none⟩ = some (.bool false) ∧ Wi.cell? ⟨w.heap.size + 1 + 1, 1, none⟩ = some (.slice none 0 0) ∧ ∀ b j, w.heap.size ≤ b → b < w.heap.size + 3 → Wi.frozen? ⟨b, j, none⟩ = false) := ⟨⟨i0, i1, i2, i3⟩, i4, i5, i6⟩
  clear i0 i1 i2 i3 i4 i5 i6
  go_enter Tryd.func40, Tryd.ntmps40
  go_wp2_with (go_at_call 45; refine (compare_at ao bo la ca lb cb a.natAbs b.natAbs _ (hx0.row.later (by subst hWi; exact Below.refl _ _)) (hy0.row.later (by subst hWi; exact Below.refl _ _)) hl hl' (-1) HC.out.1).mono ?_; rintro e w0 ⟨rfl, hb0⟩; rw [← hWi] at hb0; have d0 : w0.cell? ⟨w.heap.size, 0, none⟩ = some (.bool na) := (hb0.cell (p := ⟨w.heap.size, 0, none⟩) (by (show w.heap.size < _; omega))).trans HI.out.1.1; have d1 : w0.cell? ⟨w.heap.size, 1, none⟩ = some (.slice ao la ca) := (hb0.cell (p := ⟨w.heap.size, 1, none⟩) (by (show w.heap.size < _; omega))).trans HI.out.1.2.1; have d2 : w0.cell? ⟨w.heap.size + 1, 0, none⟩ = some (.bool nb) := (hb0.cell (p := ⟨w.heap.size + 1, 0, none⟩) (by (show w.heap.size + 1 < _; omega))).trans HI.out.1.2.2.1; have d3 : w0.cell? ⟨w.heap.size + 1, 1, none⟩ = some (.slice bo lb cb) := (hb0.cell (p := ⟨w.heap.size + 1, 1, none⟩) (by (show w.heap.size + 1 < _; omega))).trans HI.out.1.2.2.2; have d4 : ∀ j, w0.frozen? ⟨w.heap.size, j, none⟩ = false := fun j => (hb0.frozen (p := ⟨w.heap.size, j, none⟩) (by (show w.heap.size < _; omega))).trans (HI.out.2.2.2 _ j (by omega) (by omega)); have d5 : ∀ j, w0.frozen? ⟨w.heap.size + 1, j, none⟩ = false := fun j => (hb0.frozen (p := ⟨w.heap.size + 1, j, none⟩) (by (show w.heap.size + 1 < _; omega))).trans (HI.out.2.2.2 _ j (by omega) (by omega)))
  have hs0 := hb0.size
  obtain ⟨W0, hW0⟩ : ∃ W0, W0 = (((w0.setCell ⟨w.heap.size, 0, none⟩ (.bool nb)).setCell ⟨w.heap.size, 1, none⟩ (.slice bo lb cb)).setCell ⟨w.heap.size + 1, 0, none⟩ (.bool na)).setCell ⟨w.heap.size + 1, 1, none⟩ (.slice ao la ca) := ⟨_, rfl⟩
  rw [← hW0]
  have hbZ : Below w.heap.size w W0 := by
    rw [hW0]
    exact (((((hbW.trans (hb0.mono (by omega))).setCell (by show _ ≤ w.heap.size; omega) _).setCell (by show _ ≤ w.heap.size; omega) _).setCell (by show _ ≤ w.heap.size + 1; omega) _).setCell (by show _ ≤ w.heap.size + 1; omega) _)
  have hsz : w.heap.size + 3 ≤ W0.heap.size := by rw [hW0]; simp; omega
  have c0 : W0.cell? ⟨w.heap.size, 0, none⟩ = some (.bool nb) := by rw [hW0]; simp [go_sem, d0, d1, d2, d3]
  have c1 : W0.cell? ⟨w.heap.size, 1, none⟩ = some (.slice bo lb cb) := by rw [hW0]; simp [go_sem, d0, d1, d2, d3]
  have c2 : W0.cell? ⟨w.heap.size + 1, 1, none⟩ = some (.slice ao la ca) := by rw [hW0]; simp [go_sem, d0, d1, d2, d3]
  have c3 : W0.cell? ⟨w.heap.size + 1 + 1, 0, none⟩ = some (.bool false) := by
    rw [hW0]; simp [go_sem]; exact (hb0.cell (p := ⟨w.heap.size + 1 + 1, 0, none⟩) (by show w.heap.size + 1 + 1 < _; omega)).trans HI.out.2.1
  have c4 : W0.cell? ⟨w.heap.size + 1 + 1, 1, none⟩ = some (.slice none 0 0) := by
    rw [hW0]; simp [go_sem]; exact (hb0.cell (p := ⟨w.heap.size + 1 + 1, 1, none⟩) (by show w.heap.size + 1 + 1 < _; omega)).trans HI.out.2.2.1
  have f0 : ∀ j, W0.frozen? ⟨w.heap.size + 1 + 1, j, none⟩ = false := by
    intro j; rw [hW0]; simp [go_sem]; exact (hb0.frozen (p := ⟨w.heap.size + 1 + 1, j, none⟩) (by show w.heap.size + 1 + 1 < _; omega)).trans (HI.out.2.2.2 _ j (by omega) (by omega))
  clear hW0 hWi d0 d1 d2 d3 d4 d5
  have KS : Hid (∀ w' : World, Below (w.heap.size + 2) W0 w' → (Below (w.heap.size + 2) W0 w' ∧ w'.cell? ⟨w.heap.size, 0, none⟩ = some (.bool nb) ∧ w'.cell? ⟨w.heap.size, 1, none⟩ = some (.slice bo lb cb) ∧ w'.cell? ⟨w.heap.size + 1, 1, none⟩ = some (.slice ao la ca))) := fun w' h => ⟨h, (h.cell (p := ⟨w.heap.size, 0, none⟩) (by show w.heap.size < _; omega)).trans c0, (h.cell (p := ⟨w.heap.size, 1, none⟩) (by show w.heap.size < _; omega)).trans c1, (h.cell (p := ⟨w.heap.size + 1, 1, none⟩) (by show w.heap.size + 1 < _; omega)).trans c2⟩
  have K1 : Hid (∀ w1 w2 : World, (Below (w.heap.size + 2) W0 w1 ∧ w1.cell? ⟨w.heap.size, 0, none⟩ = some (.bool nb) ∧ w1.cell? ⟨w.heap.size, 1, none⟩ = some (.slice bo lb cb) ∧ w1.cell? ⟨w.heap.size + 1, 1, none⟩ = some (.slice ao la ca)) → Below w1.heap.size w1 w2 → (Below (w.heap.size + 2) W0 w2 ∧ w2.cell? ⟨w.heap.size, 0, none⟩ = some (.bool nb) ∧ w2.cell? ⟨w.heap.size, 1, none⟩ = some (.slice bo lb cb) ∧ w2.cell? ⟨w.heap.size + 1, 1, none⟩ = some (.slice ao la ca))) := fun w1 w2 h hb => KS.out _ (h.1.trans (hb.mono (by have := h.1.size; omega)))
  have K2 : Hid (∀ w1 w2 : World, (Below (w.heap.size + 2) W0 w1 ∧ w1.cell? ⟨w.heap.size, 0, none⟩ = some (.bool nb) ∧ w1.cell? ⟨w.heap.size, 1, none⟩ = some (.slice bo lb cb) ∧ w1.cell? ⟨w.heap.size + 1, 1, none⟩ = some (.slice ao la ca)) → Below (w.heap.size + 2) w1 w2 → (Below (w.heap.size + 2) W0 w2 ∧ w2.cell? ⟨w.heap.size, 0, none⟩ = some (.bool nb) ∧ w2.cell? ⟨w.heap.size, 1, none⟩ = some (.slice bo lb cb) ∧ w2.cell? ⟨w.heap.size + 1, 1, none⟩ = some (.slice ao la ca))) := fun w1 w2 h hb => KS.out _ (h.1.trans hb)
  have KF : Hid ((∀ j, W0.frozen? ⟨w.heap.size + 1 + 1, j, none⟩ = false) ∧ W0.cell? ⟨w.heap.size + 1 + 1, 0, none⟩ = some (.bool false) ∧ W0.cell? ⟨w.heap.size + 1 + 1, 1, none⟩ = some (.slice none 0 0)) := ⟨f0, c3, c4⟩
  clear c0 c1 c2 c3 c4 f0
  have hxZ := (hx.later hbZ).row
  have hyZ := (hy.later hbZ).row
  go_region_held3 (fun w' => Below (w.heap.size + 2) W0 w' ∧ w'.cell? ⟨w.heap.size, 0, none⟩ = some (.bool nb) ∧ w'.cell? ⟨w.heap.size, 1, none⟩ = some (.slice bo lb cb) ∧ w'.cell? ⟨w.heap.size + 1, 1, none⟩ = some (.slice ao la ca))
    (first
      | exact KS.out _ (Below.refl _ _).drew
      | exact K1.out _ _ (by assumption) (by assumption)
      | exact K2.out _ _ (by assumption) (((Below.refl _ _).setCell (by show _ ≤ w.heap.size + 1 + 1; omega) _).setCell (by show _ ≤ w.heap.size + 1 + 1; omega) _))
    (first
      | (go_at_call 57; refine (minus_any bo ao lb cb la ca b.natAbs a.natAbs _ (hyZ.later (Below.refl _ _).drew) (hxZ.later (Below.refl _ _).drew) hl' (Nat.le_of_lt HC.out.2)).mono ?_; rintro e w1 ⟨ao1, l1, c1, rfl, ho1, hb1⟩; have hlen1 : l1 ≤ 4611686018427387904 := by (rw [ho1.row.hlen]; have := mag_len_mono (Nat.sub_le b.natAbs a.natAbs); rw [← hy0.row.hlen] at this; omega))
      | (go_at_call 18; refine (signed_any nb ao1 l1 c1 _ hlen1).mono ?_; rintro e w2 ⟨rfl, hb2⟩; have hbA : Below W0.heap.size W0 w2 := (((Below.refl _ _).drew).trans hb1).trans (hb2.mono hb1.size); have g3 : w2.cell? ⟨w.heap.size + 1 + 1, 0, none⟩ = some (.bool false) := (hbA.cell (p := ⟨w.heap.size + 1 + 1, 0, none⟩) (by (show w.heap.size + 1 + 1 < _; omega))).trans KF.out.2.1; have g4 : w2.cell? ⟨w.heap.size + 1 + 1, 1, none⟩ = some (.slice none 0 0) := (hbA.cell (p := ⟨w.heap.size + 1 + 1, 1, none⟩) (by (show w.heap.size + 1 + 1 < _; omega))).trans KF.out.2.2; have g5 : ∀ j, w2.frozen? ⟨w.heap.size + 1 + 1, j, none⟩ = false := fun j => (hbA.frozen (p := ⟨w.heap.size + 1 + 1, j, none⟩) (by (show w.heap.size + 1 + 1 < _; omega))).trans (KF.out.1 j)))
  go_wp2
  exact bodyPost_ret (v := .agg #[.bool (nb && decide (0 < l1)), .slice ao1 l1 c1]) (by simp [results, Tryd.results40, go_sem, g3, g4]) rfl
    (NewInt.ret (((ho1.later hb2).setOther (a := ⟨w.heap.size + 1 + 1, 0, none⟩) (by show w.heap.size + 1 + 1 < W0.heap.size; omega) _).setOther (a := ⟨w.heap.size + 1 + 1, 1, none⟩) (by show w.heap.size + 1 + 1 < W0.heap.size; omega) _)
      (by show _ ≤ W0.heap.size; omega) (by rw [Int.add_comm]; exact sgn_add_diff hy.sg hx.sg (Ne.symm hs) (Nat.le_of_lt HC.out.2))
      ((hbZ.trans (hbA.mono (by omega))).setCell (by show _ ≤ w.heap.size + 1 + 1; omega) _ |>.setCell (by show _ ≤ w.heap.size + 1 + 1; omega) _))

theorem sum_any (na nb : Bool) (ao bo : Option Addr) (la ca lb cb : Nat) (a b : Int) (w : World) (hx : IntAt w na ao la ca a) (hy : IntAt w nb bo lb cb b) (hl : la ≤ 4294967296) (hl' : lb ≤ 4294967296) :
    Calls Tryd.prog 40 #[.agg #[.bool na, .slice ao la ca], .agg #[.bool nb, .slice bo lb cb]] w fun e w' => NewInt w w' e (a + b) := by
  by_cases hs : na = nb
  · exact sum_same na nb ao bo la ca lb cb a b w hx hy hl hl' hs
  · by_cases hle : b.natAbs ≤ a.natAbs
    · exact sum_ge na nb ao bo la ca lb cb a b w hx hy hl hl' hs hle
    · exact sum_lt na nb ao bo la ca lb cb a b w hx hy hl hl' hs (by omega)

end Go.Proofs.YtnodcfeimiimbaaDoor
