/-
  Walks: the page's own sums of numbers.
-/
import Derived.Test.YtnodcfeimiimbaaWG
import Derived.Test.YtnodcfeimiimbaaWB
namespace Go.Proofs.Ytnodcfeimiimbaa
open Go.RowKit
set_option linter.unusedVariables false
set_option linter.unusedSimpArgs false

/-- a number, in whatever memory: what the page's own calls hand back -/
def RefInt (w w' : World) (e : Ending) (v : Int) : Prop :=
  ∃ neg ao len cap, e = .returned (.agg #[.bool neg, .slice ao len cap]) ∧ IntAt w' neg ao len cap v ∧ Below w.heap.size w w'
theorem NewInt.ref {w w' : World} {e : Ending} {v : Int} (h : NewInt w w' e v) : RefInt w w' e v := by
  obtain ⟨neg, ao, l, c, he, hs, ho, hb⟩ := h
  exact ⟨neg, ao, l, c, he, ⟨hs, ho.row⟩, hb⟩
theorem RefInt.ret {w w' : World} {neg : Bool} {n l c : Nat} {ao : Option Addr} {v : Int} (ho : RowAt w' .u64 ao l c (mag n)) (hv : v = sgn neg n) (hb : Below w.heap.size w w') : RefInt w w' (.returned (.agg #[.bool (neg && decide (0 < l)), .slice ao l c])) v := by
  subst hv
  refine ⟨_, _, _, _, rfl, ⟨?_, ?_⟩, hb⟩
  · rw [sgB_sgn, ho.hlen]
  · rw [natAbs_sgn]; exact ho
theorem ncmp_at (ao bo : Option Addr) (la ca lb cb a b : Nat) (w : World) (hx : RowAt w .u64 ao la ca (mag a)) (hy : RowAt w .u64 bo lb cb (mag b)) (hl : la ≤ 4294967296) (hl' : lb ≤ 4294967296) (c : Int) (hc : cmpI a b = c) :
    Calls Try.prog 28 #[.slice ao la ca, .slice bo lb cb] w fun e w' => e = .returned (.int .i64 c) ∧ Below w.heap.size w w' := by
  refine (ncmp_any ao bo la ca lb cb (mag a) (mag b) w hx hy (mag_wd _) (mag_wd _) (mag_can _) (mag_can _) (by omega) (by omega)).mono fun e w' h => ?_
  rw [mag_val, mag_val, hc] at h; exact h

set_option maxRecDepth 100000 in
set_option maxHeartbeats 1000000 in
theorem rplus_same (na nb : Bool) (ao bo : Option Addr) (la ca lb cb : Nat) (a b : Int) (w : World) (hx : IntAt w na ao la ca a) (hy : IntAt w nb bo lb cb b) (hl : la ≤ 1073741824) (hl' : lb ≤ 1073741824) (hs : na = nb) :
    Calls Try.prog 10 #[.agg #[.bool na, .slice ao la ca], .agg #[.bool nb, .slice bo lb cb]] w fun e w' => RefInt w w' e (a + b) := by
  obtain ⟨W, hT⟩ := Two3.mk' w na nb ao bo la ca lb cb
  have hsz := hT.size
  have hRx := hx.later hT.below
  have hRy := hy.later hT.below
  subst hs
  have KS : Hid (∀ w' : World, Below (w.heap.size + 2) W w' → (Below (w.heap.size + 2) W w' ∧ w'.cell? ⟨w.heap.size, 0, none⟩ = some (.bool na) ∧ w'.cell? ⟨w.heap.size, 1, none⟩ = some (.slice ao la ca) ∧ w'.cell? ⟨w.heap.size + 1, 1, none⟩ = some (.slice bo lb cb))) := fun w' h => ⟨h, (h.cell (p := ⟨w.heap.size, 0, none⟩) (by show w.heap.size < _; omega)).trans hT.a.1, (h.cell (p := ⟨w.heap.size, 1, none⟩) (by show w.heap.size < _; omega)).trans hT.a.2, (h.cell (p := ⟨w.heap.size + 1, 1, none⟩) (by show w.heap.size + 1 < _; omega)).trans hT.b.2⟩
  have K1 : Hid (∀ w1 w2 : World, (Below (w.heap.size + 2) W w1 ∧ w1.cell? ⟨w.heap.size, 0, none⟩ = some (.bool na) ∧ w1.cell? ⟨w.heap.size, 1, none⟩ = some (.slice ao la ca) ∧ w1.cell? ⟨w.heap.size + 1, 1, none⟩ = some (.slice bo lb cb)) → Below w1.heap.size w1 w2 → (Below (w.heap.size + 2) W w2 ∧ w2.cell? ⟨w.heap.size, 0, none⟩ = some (.bool na) ∧ w2.cell? ⟨w.heap.size, 1, none⟩ = some (.slice ao la ca) ∧ w2.cell? ⟨w.heap.size + 1, 1, none⟩ = some (.slice bo lb cb))) := fun w1 w2 h hb => KS.out _ (h.1.trans (hb.mono (by have := h.1.size; omega)))
  have K2 : Hid (∀ w1 w2 : World, (Below (w.heap.size + 2) W w1 ∧ w1.cell? ⟨w.heap.size, 0, none⟩ = some (.bool na) ∧ w1.cell? ⟨w.heap.size, 1, none⟩ = some (.slice ao la ca) ∧ w1.cell? ⟨w.heap.size + 1, 1, none⟩ = some (.slice bo lb cb)) → Below (w.heap.size + 2) w1 w2 → (Below (w.heap.size + 2) W w2 ∧ w2.cell? ⟨w.heap.size, 0, none⟩ = some (.bool na) ∧ w2.cell? ⟨w.heap.size, 1, none⟩ = some (.slice ao la ca) ∧ w2.cell? ⟨w.heap.size + 1, 1, none⟩ = some (.slice bo lb cb))) := fun w1 w2 h hb => KS.out _ (h.1.trans hb)
  have HE : Hid (a + b = sgn na (a.natAbs + b.natAbs)) := sgn_add_same hx.sg hy.sg
  clear hx hy
  go_enter Try.func10, Try.ntmps10
  go_wp2
  rw [← hT.eq]
  go_region_held3 (fun w' => Below (w.heap.size + 2) W w' ∧ w'.cell? ⟨w.heap.size, 0, none⟩ = some (.bool na) ∧ w'.cell? ⟨w.heap.size, 1, none⟩ = some (.slice ao la ca) ∧ w'.cell? ⟨w.heap.size + 1, 1, none⟩ = some (.slice bo lb cb))
    (first
      | exact KS.out _ (Below.refl _ _).drew
      | exact K1.out _ _ (by assumption) (by assumption)
      | exact K2.out _ _ (by assumption) (below_store (Below.refl _ _) (by omega) _ _))
    (first
      | (go_at_call 27; refine (nplus_any ao bo la ca lb cb a.natAbs b.natAbs _ (hRx.row.later (Below.refl _ _).drew) (hRy.row.later (Below.refl _ _).drew) hl hl').mono ?_; rintro e w1 ⟨ao1, l1, c1, rfl, ho1, hb1⟩; have hlen1 : l1 ≤ 4611686018427387904 := by (rw [ho1.row.hlen]; have := mag_len_add a.natAbs b.natAbs; rw [← hRx.row.hlen, ← hRy.row.hlen] at this; omega))
      | (go_at_call 21; refine (made_any na ao1 l1 c1 _ hlen1).mono ?_; rintro e w2 ⟨rfl, hb2⟩; obtain ⟨g5, g3, g4⟩ := hT.r.later (bnext ((Below.refl _ _).drew.trans hb1) hb2) (by omega)))
  go_wp2
  exact bodyPost_ret (v := .agg #[.bool (na && decide (0 < l1)), .slice ao1 l1 c1]) (by simp [results, Try.results10, go_sem, g3, g4]) rfl
    (RefInt.ret ((ho1.later hb2).store (by show _ < W.heap.size; omega) _ _).row (HE.out) (below_store (bnext hT.below (bnext ((Below.refl _ _).drew.trans hb1) hb2)) (by omega) _ _))

set_option maxRecDepth 100000 in
set_option maxHeartbeats 1000000 in
theorem rplus_ge (na nb : Bool) (ao bo : Option Addr) (la ca lb cb : Nat) (a b : Int) (w : World) (hx : IntAt w na ao la ca a) (hy : IntAt w nb bo lb cb b) (hl : la ≤ 1073741824) (hl' : lb ≤ 1073741824) (hs : na ≠ nb) (hle : b.natAbs ≤ a.natAbs) :
    Calls Try.prog 10 #[.agg #[.bool na, .slice ao la ca], .agg #[.bool nb, .slice bo lb cb]] w fun e w' => RefInt w w' e (a + b) := by
  obtain ⟨W, hT⟩ := Two3.mk' w na nb ao bo la ca lb cb
  have hsz := hT.size
  have hRx := hx.later hT.below
  have hRy := hy.later hT.below
  have hs' : (na == nb) = false := by simpa using hs
  obtain ⟨cc, hcc, hcp⟩ := cmpI_ge (a := (a.natAbs : Int)) (b := (b.natAbs : Int)) (by omega)
  have HC : Hid (cmpI (a.natAbs : Int) (b.natAbs : Int) = cc ∧ b.natAbs ≤ a.natAbs) := ⟨hcc, hle⟩
  clear hcc hle
  have KS : Hid (∀ w' : World, Below (w.heap.size + 2) W w' → (Below (w.heap.size + 2) W w' ∧ w'.cell? ⟨w.heap.size, 0, none⟩ = some (.bool na) ∧ w'.cell? ⟨w.heap.size, 1, none⟩ = some (.slice ao la ca) ∧ w'.cell? ⟨w.heap.size + 1, 1, none⟩ = some (.slice bo lb cb))) := fun w' h => ⟨h, (h.cell (p := ⟨w.heap.size, 0, none⟩) (by show w.heap.size < _; omega)).trans hT.a.1, (h.cell (p := ⟨w.heap.size, 1, none⟩) (by show w.heap.size < _; omega)).trans hT.a.2, (h.cell (p := ⟨w.heap.size + 1, 1, none⟩) (by show w.heap.size + 1 < _; omega)).trans hT.b.2⟩
  have K1 : Hid (∀ w1 w2 : World, (Below (w.heap.size + 2) W w1 ∧ w1.cell? ⟨w.heap.size, 0, none⟩ = some (.bool na) ∧ w1.cell? ⟨w.heap.size, 1, none⟩ = some (.slice ao la ca) ∧ w1.cell? ⟨w.heap.size + 1, 1, none⟩ = some (.slice bo lb cb)) → Below w1.heap.size w1 w2 → (Below (w.heap.size + 2) W w2 ∧ w2.cell? ⟨w.heap.size, 0, none⟩ = some (.bool na) ∧ w2.cell? ⟨w.heap.size, 1, none⟩ = some (.slice ao la ca) ∧ w2.cell? ⟨w.heap.size + 1, 1, none⟩ = some (.slice bo lb cb))) := fun w1 w2 h hb => KS.out _ (h.1.trans (hb.mono (by have := h.1.size; omega)))
  have K2 : Hid (∀ w1 w2 : World, (Below (w.heap.size + 2) W w1 ∧ w1.cell? ⟨w.heap.size, 0, none⟩ = some (.bool na) ∧ w1.cell? ⟨w.heap.size, 1, none⟩ = some (.slice ao la ca) ∧ w1.cell? ⟨w.heap.size + 1, 1, none⟩ = some (.slice bo lb cb)) → Below (w.heap.size + 2) w1 w2 → (Below (w.heap.size + 2) W w2 ∧ w2.cell? ⟨w.heap.size, 0, none⟩ = some (.bool na) ∧ w2.cell? ⟨w.heap.size, 1, none⟩ = some (.slice ao la ca) ∧ w2.cell? ⟨w.heap.size + 1, 1, none⟩ = some (.slice bo lb cb))) := fun w1 w2 h hb => KS.out _ (h.1.trans hb)
  have HE : Hid (a + b = sgn na (a.natAbs - b.natAbs)) := sgn_add_diff hx.sg hy.sg hs HC.out.2
  clear hx hy
  go_enter Try.func10, Try.ntmps10
  go_wp2_with (go_at_call 28; rw [← hT.eq]; refine (ncmp_at ao bo la ca lb cb a.natAbs b.natAbs _ hRx.row hRy.row (by omega) (by omega) cc HC.out.1).mono ?_; rintro e w0 ⟨rfl, hb0⟩; have hs0 := hb0.size)
  have hbX : Below (w.heap.size + 2) W w0 := hb0.mono (by omega)
  go_region_held3 (fun w' => Below (w.heap.size + 2) W w' ∧ w'.cell? ⟨w.heap.size, 0, none⟩ = some (.bool na) ∧ w'.cell? ⟨w.heap.size, 1, none⟩ = some (.slice ao la ca) ∧ w'.cell? ⟨w.heap.size + 1, 1, none⟩ = some (.slice bo lb cb))
    (first
      | exact KS.out _ (hbX).drew
      | exact K1.out _ _ (by assumption) (by assumption)
      | exact K2.out _ _ (by assumption) (below_store (Below.refl _ _) (by omega) _ _))
    (first
      | (go_at_call 29; refine (nless_any ao bo la ca lb cb a.natAbs b.natAbs _ (hRx.row.later hb0.drew) (hRy.row.later hb0.drew) hl hl' HC.out.2).mono ?_; rintro e w1 ⟨ao1, l1, c1, rfl, ho1, hb1⟩; have hlen1 : l1 ≤ 4611686018427387904 := by (rw [ho1.row.hlen]; have := mag_len_mono (Nat.sub_le a.natAbs b.natAbs); rw [← hRx.row.hlen] at this; omega))
      | (go_at_call 21; refine (made_any na ao1 l1 c1 _ hlen1).mono ?_; rintro e w2 ⟨rfl, hb2⟩; obtain ⟨g5, g3, g4⟩ := hT.r.later (bnext (bnext hb0.drew hb1) hb2) (by omega)))
  go_wp2
  exact bodyPost_ret (v := .agg #[.bool (na && decide (0 < l1)), .slice ao1 l1 c1]) (by simp [results, Try.results10, go_sem, g3, g4]) rfl
    (RefInt.ret ((ho1.later hb2).store (by show _ < w0.heap.size; omega) _ _).row (HE.out) (below_store (bnext hT.below (bnext (bnext hb0.drew hb1) hb2)) (by omega) _ _))

set_option maxRecDepth 100000 in
set_option maxHeartbeats 1000000 in
theorem rplus_lt (na nb : Bool) (ao bo : Option Addr) (la ca lb cb : Nat) (a b : Int) (w : World) (hx : IntAt w na ao la ca a) (hy : IntAt w nb bo lb cb b) (hl : la ≤ 1073741824) (hl' : lb ≤ 1073741824) (hs : na ≠ nb) (hlt : a.natAbs < b.natAbs) :
    Calls Try.prog 10 #[.agg #[.bool na, .slice ao la ca], .agg #[.bool nb, .slice bo lb cb]] w fun e w' => RefInt w w' e (a + b) := by
  obtain ⟨W, hT⟩ := Two3.mk' w na nb ao bo la ca lb cb
  have hsz := hT.size
  have hRx := hx.later hT.below
  have hRy := hy.later hT.below
  have hs' : (na == nb) = false := by simpa using hs
  have HC : Hid (cmpI (a.natAbs : Int) (b.natAbs : Int) = -1 ∧ a.natAbs < b.natAbs) := ⟨cmpI_lt (by omega), hlt⟩
  clear hlt
  have KS : Hid (∀ w' : World, Below (w.heap.size + 2) W w' → (Below (w.heap.size + 2) W w' ∧ w'.cell? ⟨w.heap.size, 1, none⟩ = some (.slice ao la ca) ∧ w'.cell? ⟨w.heap.size + 1, 0, none⟩ = some (.bool nb) ∧ w'.cell? ⟨w.heap.size + 1, 1, none⟩ = some (.slice bo lb cb))) := fun w' h => ⟨h, (h.cell (p := ⟨w.heap.size, 1, none⟩) (by show w.heap.size < _; omega)).trans hT.a.2, (h.cell (p := ⟨w.heap.size + 1, 0, none⟩) (by show w.heap.size + 1 < _; omega)).trans hT.b.1, (h.cell (p := ⟨w.heap.size + 1, 1, none⟩) (by show w.heap.size + 1 < _; omega)).trans hT.b.2⟩
  have K1 : Hid (∀ w1 w2 : World, (Below (w.heap.size + 2) W w1 ∧ w1.cell? ⟨w.heap.size, 1, none⟩ = some (.slice ao la ca) ∧ w1.cell? ⟨w.heap.size + 1, 0, none⟩ = some (.bool nb) ∧ w1.cell? ⟨w.heap.size + 1, 1, none⟩ = some (.slice bo lb cb)) → Below w1.heap.size w1 w2 → (Below (w.heap.size + 2) W w2 ∧ w2.cell? ⟨w.heap.size, 1, none⟩ = some (.slice ao la ca) ∧ w2.cell? ⟨w.heap.size + 1, 0, none⟩ = some (.bool nb) ∧ w2.cell? ⟨w.heap.size + 1, 1, none⟩ = some (.slice bo lb cb))) := fun w1 w2 h hb => KS.out _ (h.1.trans (hb.mono (by have := h.1.size; omega)))
  have K2 : Hid (∀ w1 w2 : World, (Below (w.heap.size + 2) W w1 ∧ w1.cell? ⟨w.heap.size, 1, none⟩ = some (.slice ao la ca) ∧ w1.cell? ⟨w.heap.size + 1, 0, none⟩ = some (.bool nb) ∧ w1.cell? ⟨w.heap.size + 1, 1, none⟩ = some (.slice bo lb cb)) → Below (w.heap.size + 2) w1 w2 → (Below (w.heap.size + 2) W w2 ∧ w2.cell? ⟨w.heap.size, 1, none⟩ = some (.slice ao la ca) ∧ w2.cell? ⟨w.heap.size + 1, 0, none⟩ = some (.bool nb) ∧ w2.cell? ⟨w.heap.size + 1, 1, none⟩ = some (.slice bo lb cb))) := fun w1 w2 h hb => KS.out _ (h.1.trans hb)
  have HE : Hid (a + b = sgn nb (b.natAbs - a.natAbs)) := by show _ = _; rw [Int.add_comm]; exact sgn_add_diff hy.sg hx.sg (Ne.symm hs) (Nat.le_of_lt HC.out.2)
  clear hx hy
  go_enter Try.func10, Try.ntmps10
  go_wp2_with (go_at_call 28; rw [← hT.eq]; refine (ncmp_at ao bo la ca lb cb a.natAbs b.natAbs _ hRx.row hRy.row (by omega) (by omega) (-1) HC.out.1).mono ?_; rintro e w0 ⟨rfl, hb0⟩; have hs0 := hb0.size)
  have hbX : Below (w.heap.size + 2) W w0 := hb0.mono (by omega)
  go_region_held3 (fun w' => Below (w.heap.size + 2) W w' ∧ w'.cell? ⟨w.heap.size, 1, none⟩ = some (.slice ao la ca) ∧ w'.cell? ⟨w.heap.size + 1, 0, none⟩ = some (.bool nb) ∧ w'.cell? ⟨w.heap.size + 1, 1, none⟩ = some (.slice bo lb cb))
    (first
      | exact KS.out _ (hbX).drew
      | exact K1.out _ _ (by assumption) (by assumption)
      | exact K2.out _ _ (by assumption) (below_store (Below.refl _ _) (by omega) _ _))
    (first
      | (go_at_call 29; refine (nless_any bo ao lb cb la ca b.natAbs a.natAbs _ (hRy.row.later hb0.drew) (hRx.row.later hb0.drew) hl' hl (Nat.le_of_lt HC.out.2)).mono ?_; rintro e w1 ⟨ao1, l1, c1, rfl, ho1, hb1⟩; have hlen1 : l1 ≤ 4611686018427387904 := by (rw [ho1.row.hlen]; have := mag_len_mono (Nat.sub_le b.natAbs a.natAbs); rw [← hRy.row.hlen] at this; omega))
      | (go_at_call 21; refine (made_any nb ao1 l1 c1 _ hlen1).mono ?_; rintro e w2 ⟨rfl, hb2⟩; obtain ⟨g5, g3, g4⟩ := hT.r.later (bnext (bnext hb0.drew hb1) hb2) (by omega)))
  go_wp2
  exact bodyPost_ret (v := .agg #[.bool (nb && decide (0 < l1)), .slice ao1 l1 c1]) (by simp [results, Try.results10, go_sem, g3, g4]) rfl
    (RefInt.ret ((ho1.later hb2).store (by show _ < w0.heap.size; omega) _ _).row (HE.out) (below_store (bnext hT.below (bnext (bnext hb0.drew hb1) hb2)) (by omega) _ _))

theorem rplus_any (na nb : Bool) (ao bo : Option Addr) (la ca lb cb : Nat) (a b : Int) (w : World) (hx : IntAt w na ao la ca a) (hy : IntAt w nb bo lb cb b) (hl : la ≤ 1073741824) (hl' : lb ≤ 1073741824) :
    Calls Try.prog 10 #[.agg #[.bool na, .slice ao la ca], .agg #[.bool nb, .slice bo lb cb]] w fun e w' => RefInt w w' e (a + b) := by
  by_cases hs : na = nb
  · exact rplus_same na nb ao bo la ca lb cb a b w hx hy hl hl' hs
  · by_cases hle : b.natAbs ≤ a.natAbs
    · exact rplus_ge na nb ao bo la ca lb cb a b w hx hy hl hl' hs hle
    · exact rplus_lt na nb ao bo la ca lb cb a b w hx hy hl hl' hs (by omega)

end Go.Proofs.Ytnodcfeimiimbaa
