/-
  Walks: differences, quotients. (gen/rbad.py)
-/
import Derived.Test.YtljmbnbilmghhaaGreatDoorRF
import Derived.Test.YtljmbnbilmghhaaGreatDoorRI
namespace Go.Proofs.YtljmbnbilmghhaaGreatDoor
open Go.RowKit
set_option linter.unusedVariables false
set_option linter.unusedSimpArgs false
set_option maxRecDepth 100000 in
set_option maxHeartbeats 4000000 in
theorem opposite_rat (na : Bool) (ao po : Option Addr) (la ca lp cp : Nat) (a : Rat) (w : World) (hx : RatAt w na ao la ca po lp cp a) (hl : la ≤ 1073741824) (hl' : lp ≤ 1073741824) :
    Calls Tryz.prog 71 #[.agg #[.bool na, .slice ao la ca, .slice po lp cp]] w fun e w' => NewRat w w' e (-a) := by
  obtain ⟨W, hT⟩ := ROne2.mk' w na ao po la ca lp cp
  have hsz := hT.size
  have HX : Hid (RatAt W na ao la ca po lp cp a) := hx.later hT.below
  have KW : Hid (∀ w' : World, Below W.heap.size W w' → w'.cell? ⟨w.heap.size, 0, none⟩ = some (.bool na) ∧ w'.cell? ⟨w.heap.size, 1, none⟩ = some (.slice ao la ca) ∧ w'.cell? ⟨w.heap.size, 2, none⟩ = some (.slice po lp cp)) := fun w' h => ⟨(h.cell (p := ⟨w.heap.size, 0, none⟩) (by show w.heap.size < _; omega)).trans hT.a.1, (h.cell (p := ⟨w.heap.size, 1, none⟩) (by show w.heap.size < _; omega)).trans hT.a.2.1, (h.cell (p := ⟨w.heap.size, 2, none⟩) (by show w.heap.size < _; omega)).trans hT.a.2.2⟩
  have KS : Hid (∀ X : World, Below W.heap.size W X → ∀ x y z, (fun w' : World => w'.cell? ⟨w.heap.size, 0, none⟩ = some (.bool na) ∧ w'.cell? ⟨w.heap.size, 1, none⟩ = some (.slice ao la ca) ∧ w'.cell? ⟨w.heap.size, 2, none⟩ = some (.slice po lp cp)) (((X.setCell ⟨w.heap.size + 1, 0, none⟩ x).setCell ⟨w.heap.size + 1, 1, none⟩ y).setCell ⟨w.heap.size + 1, 2, none⟩ z)) := fun X h x y z => by
    obtain ⟨h0, h1, h2⟩ := KW.out X h
    (try dsimp only)
    rw [cell_off (by omega), cell_off (by omega), cell_off (by omega), cell_off (by omega), cell_off (by omega), cell_off (by omega), cell_off (by omega), cell_off (by omega), cell_off (by omega)]
    exact ⟨h0, h1, h2⟩
  have HF : Hid (Fresh3 W (w.heap.size + 1) ∧ Below w.heap.size w W) := ⟨hT.r, hT.below⟩
  clear hx
  go_enter Tryz.func71, Tryz.ntmps71
  go_upto_region 1 with fail
  rw [← hT.eq]
  clear hT
  have hzU : W.heap.size ≤ W.drew.heap.size := Nat.le_refl _
  have S0 : Step8 0 := ⟨trivial⟩
  go_region_held3 (fun w' => (w'.cell? ⟨w.heap.size, 0, none⟩ = some (.bool na) ∧ w'.cell? ⟨w.heap.size, 1, none⟩ = some (.slice ao la ca) ∧ w'.cell? ⟨w.heap.size, 2, none⟩ = some (.slice po lp cp)))
    (with_reducible (first | exact KS.out _ hbF2 _ _ _ | exact KW.out _ (Below.refl _ _).drew | exact KW.out _ (by assumption) | (refine KW.out _ ?_; (repeat (first | refine below_alloc ?_ (Nat.le_refl _) | refine Below.drew ?_ | refine below_set ?_ (by omega))); (first | exact hbF2 | exact hbF1 | exact Below.refl _ _))))
    (first
      | (have _t := S0; go_at_call 121; refine with_held (S := fun w9 => Below W.heap.size W w9) (by show Below _ _ _; with_reducible ((repeat (first | refine below_alloc ?_ (Nat.le_refl _) | refine Below.drew ?_ | refine below_set ?_ (by omega))); (first | exact hbF2 | exact hbF1 | exact Below.refl _ _))) (fun hS => ?_); refine (bneg_any na ao la ca a.num _ (HX.out.num.later hS) (by omega)).mono ?_; rintro e f1 ⟨n1, o1, l1, c1, rfl, hs, ho, hb⟩; have H1 : Hid (n1 = sgB (-a.num) ∧ Own W.heap.size f1 .u64 66 o1 l1 c1 (mag (-a.num).natAbs)) := ⟨hs, ho.mono hS.size⟩; clear hs ho; have hbF1 : Below W.heap.size W f1 := bnext hS hb; have hzF1 := hbF1.size; clear hS hb S0; have S1 : Step8 1 := ⟨trivial⟩)
      | (have _t := S1; go_at_call 83; refine with_held (S := fun w9 => Below W.heap.size W w9) (by show Below _ _ _; with_reducible ((repeat (first | refine below_alloc ?_ (Nat.le_refl _) | refine Below.drew ?_ | refine below_set ?_ (by omega))); (first | exact hbF2 | exact hbF1 | exact Below.refl _ _))) (fun hS => ?_); refine with_held (S := fun w9 => Below f1.heap.size f1 w9) (by show Below _ _ _; with_reducible ((repeat (refine below_alloc ?_ (Nat.le_refl _))); exact Below.refl _ _)) (fun hS2 => ?_); refine (cloneNat_any po lp cp a.den _ (HX.out.den.later hS) hl').mono ?_; rintro e f2 ⟨o2, l2, c2, rfl, ho, hb⟩; have H2 : Hid ((n1 = sgB (-a.num) ∧ Own W.heap.size f2 .u64 66 o1 l1 c1 (mag (-a.num).natAbs)) ∧ Own W.heap.size f2 .u64 66 o2 l2 c2 (mag a.den) ∧ Parted o1 o2 ∧ Below W.heap.size W f2) := ⟨⟨H1.out.1, H1.out.2.later (bnext hS2 hb)⟩, ho.mono hS.size, Parted.made H1.out.2 ho hS2.size, bnext hS hb⟩; clear ho; obtain ⟨k5, k2, k3, k4⟩ := HF.out.1.later (bnext hS hb) (by omega); have hbF2 : Below W.heap.size W f2 := bnext hS hb; have hzF2 := hbF2.size; clear hS hb S1; clear hS2; skip))
  all_goals go_wp2
  have hs2 := H2.out.2.2.2.size
  exact bodyPost_ret (v := .agg #[.bool n1, .slice o1 l1 c1, .slice o2 l2 c2]) (by simp [results, Tryz.results71, go_sem, k2, k3, k4]) rfl
    ⟨_, _, _, _, _, _, _, rfl, by rw [Rat.neg_num]; exact H2.out.1.1, by rw [Rat.neg_num]; exact (H2.out.1.2.store3 (by omega) _ _ _).mono (by omega), by rw [Rat.neg_den]; exact (H2.out.2.1.store3 (by omega) _ _ _).mono (by omega), H2.out.2.2.1, below_store3 (bnext HF.out.2 H2.out.2.2.2) (by omega) _ _ _⟩
set_option maxRecDepth 100000 in
set_option maxHeartbeats 4000000 in
theorem sub_rat (na nb : Bool) (ao po bo qo : Option Addr) (la ca lp cp lb cb lq cq : Nat) (a b : Rat) (w : World) (hx : RatAt w na ao la ca po lp cp a) (hy : RatAt w nb bo lb cb qo lq cq b) (ha : Sz a 1000) (hb : Sz b 1000) (hT0 : TabAt 0 Lib.deBruijn64tab w) :
    Calls Tryz.prog 19 #[.agg #[.bool na, .slice ao la ca, .slice po lp cp], .agg #[.bool nb, .slice bo lb cb, .slice qo lq cq]] w fun e w' => NewRatErr w w' e (a - b) := by
  obtain ⟨W, hT⟩ := RTwo3.mk' w na nb ao po bo qo la ca lp cp lb cb lq cq
  have hsz := hT.size
  have HX : Hid (RatAt W na ao la ca po lp cp a ∧ RatAt W nb bo lb cb qo lq cq b ∧ TabAt 0 Lib.deBruijn64tab W) := ⟨hx.later hT.below, hy.later hT.below, tab_later hT0 hT.below⟩
  have hla : la ≤ 1000 := (hx.len ha).1
  have hlp : lp ≤ 1000 := (hx.len ha).2
  have hlb : lb ≤ 1000 := (hy.len hb).1
  have hlq : lq ≤ 1000 := (hy.len hb).2
  have HV : Hid (a - b = a + -b) := Rat.sub_eq_add_neg a b
  have KW : Hid (∀ w' : World, Below W.heap.size W w' → w'.cell? ⟨w.heap.size, 0, none⟩ = some (.bool na) ∧ w'.cell? ⟨w.heap.size, 1, none⟩ = some (.slice ao la ca) ∧ w'.cell? ⟨w.heap.size, 2, none⟩ = some (.slice po lp cp) ∧ w'.cell? ⟨w.heap.size + 1, 0, none⟩ = some (.bool nb) ∧ w'.cell? ⟨w.heap.size + 1, 1, none⟩ = some (.slice bo lb cb) ∧ w'.cell? ⟨w.heap.size + 1, 2, none⟩ = some (.slice qo lq cq)) := fun w' h => ⟨(h.cell (p := ⟨w.heap.size, 0, none⟩) (by show w.heap.size < _; omega)).trans hT.a.1, (h.cell (p := ⟨w.heap.size, 1, none⟩) (by show w.heap.size < _; omega)).trans hT.a.2.1, (h.cell (p := ⟨w.heap.size, 2, none⟩) (by show w.heap.size < _; omega)).trans hT.a.2.2, (h.cell (p := ⟨w.heap.size + 1, 0, none⟩) (by show w.heap.size + 1 < _; omega)).trans hT.b.1, (h.cell (p := ⟨w.heap.size + 1, 1, none⟩) (by show w.heap.size + 1 < _; omega)).trans hT.b.2.1, (h.cell (p := ⟨w.heap.size + 1, 2, none⟩) (by show w.heap.size + 1 < _; omega)).trans hT.b.2.2⟩
  have HF : Hid (Fresh3 W (w.heap.size + 1 + 1) ∧ Below w.heap.size w W) := ⟨hT.r, hT.below⟩
  have HSz : Hid (Sz a 1000 ∧ Sz b 1000) := ⟨ha, hb⟩
  clear hx hy hT0
  go_enter Tryz.func19, Tryz.ntmps19
  go_upto_region 4 with (first
    | (go_at_call 68; rw [← hT.eq]; refine (checkBoth_good na nb ao po bo qo la ca lp cp lb cb lq cq a b _ HX.out.1 HX.out.2.1 (by omega) (by omega) (by omega) (by omega) HX.out.2.2).mono ?_; rintro e U ⟨rfl, hb1⟩; obtain ⟨p0, p1, p2⟩ := hT.a.later hb1 (by omega); obtain ⟨q0, q1, q2⟩ := hT.b.later hb1 (by omega); obtain ⟨g5, g2, g3, g4⟩ := hT.r.later hb1 (by omega))
    | fail)
  have hsU := hb1.size
  have KU : Hid (∀ w' : World, Below U.heap.size U w' → w'.cell? ⟨w.heap.size, 0, none⟩ = some (.bool na) ∧ w'.cell? ⟨w.heap.size, 1, none⟩ = some (.slice ao la ca) ∧ w'.cell? ⟨w.heap.size, 2, none⟩ = some (.slice po lp cp) ∧ w'.cell? ⟨w.heap.size + 1, 0, none⟩ = some (.bool nb) ∧ w'.cell? ⟨w.heap.size + 1, 1, none⟩ = some (.slice bo lb cb) ∧ w'.cell? ⟨w.heap.size + 1, 2, none⟩ = some (.slice qo lq cq)) := fun w' h => KW.out w' (bnext hb1 h)
  have KS : Hid (∀ X : World, Below U.heap.size U X → ∀ x y z, (fun w' : World => w'.cell? ⟨w.heap.size, 0, none⟩ = some (.bool na) ∧ w'.cell? ⟨w.heap.size, 1, none⟩ = some (.slice ao la ca) ∧ w'.cell? ⟨w.heap.size, 2, none⟩ = some (.slice po lp cp) ∧ w'.cell? ⟨w.heap.size + 1, 0, none⟩ = some (.bool nb) ∧ w'.cell? ⟨w.heap.size + 1, 1, none⟩ = some (.slice bo lb cb) ∧ w'.cell? ⟨w.heap.size + 1, 2, none⟩ = some (.slice qo lq cq)) (((X.setCell ⟨w.heap.size + 1 + 1, 0, none⟩ x).setCell ⟨w.heap.size + 1 + 1, 1, none⟩ y).setCell ⟨w.heap.size + 1 + 1, 2, none⟩ z)) := fun X h x y z => by
    obtain ⟨h0, h1, h2, h3, h4, h5⟩ := KU.out X h
    (try dsimp only)
    rw [cell_off (by omega), cell_off (by omega), cell_off (by omega), cell_off (by omega), cell_off (by omega), cell_off (by omega), cell_off (by omega), cell_off (by omega), cell_off (by omega), cell_off (by omega), cell_off (by omega), cell_off (by omega), cell_off (by omega), cell_off (by omega), cell_off (by omega), cell_off (by omega), cell_off (by omega), cell_off (by omega)]
    exact ⟨h0, h1, h2, h3, h4, h5⟩
  have HU : Hid (RatAt U na ao la ca po lp cp a ∧ RatAt U nb bo lb cb qo lq cq b ∧ TabAt 0 Lib.deBruijn64tab U ∧ Fresh3 U (w.heap.size + 1 + 1) ∧ Below w.heap.size w U) := ⟨HX.out.1.later hb1, HX.out.2.1.later hb1, tab_later HX.out.2.2 hb1, HF.out.1.later hb1 (by omega), bnext HF.out.2 hb1⟩
  clear hT hb1 p0 p1 p2 q0 q1 q2 g5 g2 g3 g4 KW
  have hzU : U.heap.size ≤ U.drew.heap.size := Nat.le_refl _
  have S0 : Step8 0 := ⟨trivial⟩
  go_region_held3 (fun w' => (w'.cell? ⟨w.heap.size, 0, none⟩ = some (.bool na) ∧ w'.cell? ⟨w.heap.size, 1, none⟩ = some (.slice ao la ca) ∧ w'.cell? ⟨w.heap.size, 2, none⟩ = some (.slice po lp cp) ∧ w'.cell? ⟨w.heap.size + 1, 0, none⟩ = some (.bool nb) ∧ w'.cell? ⟨w.heap.size + 1, 1, none⟩ = some (.slice bo lb cb) ∧ w'.cell? ⟨w.heap.size + 1, 2, none⟩ = some (.slice qo lq cq)))
    (with_reducible (first | exact KS.out _ hbF2 _ _ _ | exact KU.out _ (Below.refl _ _).drew | exact KU.out _ (by assumption) | (refine KU.out _ ?_; (repeat (first | refine below_alloc ?_ (Nat.le_refl _) | refine Below.drew ?_ | refine below_set ?_ (by omega))); (first | exact hbF2 | exact hbF1 | exact Below.refl _ _))))
    (first
      | (have _t := S0; go_at_call 71; refine with_held (S := fun w9 => Below U.heap.size U w9) (by show Below _ _ _; with_reducible ((repeat (first | refine below_alloc ?_ (Nat.le_refl _) | refine Below.drew ?_ | refine below_set ?_ (by omega))); (first | exact hbF2 | exact hbF1 | exact Below.refl _ _))) (fun hS => ?_); refine (opposite_rat nb bo qo lb cb lq cq b _ (HU.out.2.1.later hS) (by omega) (by omega)).mono ?_; rintro e f1 ⟨n1, o1, l1, c1, p1, m1, d1, rfl, hs, ho, hp, _, hb⟩; have H1 : Hid (RatAt f1 n1 o1 l1 c1 p1 m1 d1 (-b)) := ⟨ho.int hs, hp.row⟩; clear hs ho hp; have hbF1 : Below U.heap.size U f1 := bnext hS hb; have hzF1 := hbF1.size; clear hS hb S0; have S1 : Step8 1 := ⟨trivial⟩)
      | (have _t := S1; go_at_call 69; refine with_held (S := fun w9 => Below U.heap.size U w9) (by show Below _ _ _; with_reducible ((repeat (first | refine below_alloc ?_ (Nat.le_refl _) | refine Below.drew ?_ | refine below_set ?_ (by omega))); (first | exact hbF2 | exact hbF1 | exact Below.refl _ _))) (fun hS => ?_); refine with_held (S := fun w9 => Below f1.heap.size f1 w9) (by show Below _ _ _; with_reducible ((repeat (refine below_alloc ?_ (Nat.le_refl _))); exact Below.refl _ _)) (fun hS2 => ?_); refine (sum_rat na n1 ao po o1 p1 la ca lp cp l1 c1 m1 d1 a (-b) _ (HU.out.1.later hS) (H1.out.later hS2) HSz.out.1 HSz.out.2.neg (tab_later HU.out.2.2.1 hS)).mono ?_; rintro e f2 ⟨n2, o2, l2, c2, p2, m2, d2, rfl, hs, ho, hp, hpt, hb⟩; have H2 : Hid (n2 = sgB (a - b).num ∧ Own U.heap.size f2 .u64 66 o2 l2 c2 (mag (a - b).num.natAbs) ∧ Own U.heap.size f2 .u64 66 p2 m2 d2 (mag (a - b).den) ∧ Parted o2 p2 ∧ Below U.heap.size U f2) := ⟨(by rw [HV.out]; exact hs), (by rw [HV.out]; exact ho.mono hS.size), (by rw [HV.out]; exact hp.mono hS.size), hpt, bnext hS hb⟩; clear hs ho hp hpt; obtain ⟨k5, k2, k3, k4⟩ := HU.out.2.2.2.1.later (bnext hS hb) (by omega); have hbF2 : Below U.heap.size U f2 := bnext hS hb; have hzF2 := hbF2.size; clear hS hb S1; clear hS2; skip))
  all_goals go_wp2
  exact bodyPost_ret (v := .tuple #[.agg #[.bool n2, .slice o2 l2 c2, .slice p2 m2 d2], .int .i64 0]) (by simp [results, Tryz.results19, go_sem, k2, k3, k4]) rfl
    ⟨_, _, _, _, _, _, _, rfl, H2.out.1, (H2.out.2.1.store3 (by omega) _ _ _).mono (by omega), (H2.out.2.2.1.store3 (by omega) _ _ _).mono (by omega), H2.out.2.2.2.1, below_store3 (bnext HU.out.2.2.2.2 H2.out.2.2.2.2) (by omega) _ _ _⟩
set_option maxRecDepth 100000 in
set_option maxHeartbeats 4000000 in
theorem div_rat (na nb : Bool) (ao po bo qo : Option Addr) (la ca lp cp lb cb lq cq : Nat) (a b : Rat) (w : World) (hx : RatAt w na ao la ca po lp cp a) (hy : RatAt w nb bo lb cb qo lq cq b) (ha : Sz a 1000) (hb : Sz b 1000) (h0 : b ≠ 0) (hT0 : TabAt 0 Lib.deBruijn64tab w) :
    Calls Tryz.prog 21 #[.agg #[.bool na, .slice ao la ca, .slice po lp cp], .agg #[.bool nb, .slice bo lb cb, .slice qo lq cq]] w fun e w' => NewRatErr w w' e (a / b) := by
  obtain ⟨W, hT⟩ := RTwo3.mk' w na nb ao po bo qo la ca lp cp lb cb lq cq
  have hsz := hT.size
  have HX : Hid (RatAt W na ao la ca po lp cp a ∧ RatAt W nb bo lb cb qo lq cq b ∧ TabAt 0 Lib.deBruijn64tab W) := ⟨hx.later hT.below, hy.later hT.below, tab_later hT0 hT.below⟩
  have hla : la ≤ 1000 := (hx.len ha).1
  have hlp : lp ≤ 1000 := (hx.len ha).2
  have hlb : lb ≤ 1000 := (hy.len hb).1
  have hlq : lq ≤ 1000 := (hy.len hb).2
  have HV : Hid (a / b = a * b⁻¹) := Rat.div_def a b
  have hlb0 : ((lb : Int) == 0) = false := by
    have h1 : 0 < lb := by
      rw [hy.num.row.hlen]; refine mag_len_pos.2 ?_
      have : b.num ≠ 0 := fun e => h0 (Rat.num_eq_zero.1 e)
      omega
    simp; omega
  have KW : Hid (∀ w' : World, Below W.heap.size W w' → w'.cell? ⟨w.heap.size, 0, none⟩ = some (.bool na) ∧ w'.cell? ⟨w.heap.size, 1, none⟩ = some (.slice ao la ca) ∧ w'.cell? ⟨w.heap.size, 2, none⟩ = some (.slice po lp cp) ∧ w'.cell? ⟨w.heap.size + 1, 0, none⟩ = some (.bool nb) ∧ w'.cell? ⟨w.heap.size + 1, 1, none⟩ = some (.slice bo lb cb) ∧ w'.cell? ⟨w.heap.size + 1, 2, none⟩ = some (.slice qo lq cq)) := fun w' h => ⟨(h.cell (p := ⟨w.heap.size, 0, none⟩) (by show w.heap.size < _; omega)).trans hT.a.1, (h.cell (p := ⟨w.heap.size, 1, none⟩) (by show w.heap.size < _; omega)).trans hT.a.2.1, (h.cell (p := ⟨w.heap.size, 2, none⟩) (by show w.heap.size < _; omega)).trans hT.a.2.2, (h.cell (p := ⟨w.heap.size + 1, 0, none⟩) (by show w.heap.size + 1 < _; omega)).trans hT.b.1, (h.cell (p := ⟨w.heap.size + 1, 1, none⟩) (by show w.heap.size + 1 < _; omega)).trans hT.b.2.1, (h.cell (p := ⟨w.heap.size + 1, 2, none⟩) (by show w.heap.size + 1 < _; omega)).trans hT.b.2.2⟩
  have HF : Hid (Fresh3 W (w.heap.size + 1 + 1) ∧ Below w.heap.size w W) := ⟨hT.r, hT.below⟩
  have HSz : Hid (Sz a 1000 ∧ Sz b 1000) := ⟨ha, hb⟩
  clear hx hy hT0
  go_enter Tryz.func21, Tryz.ntmps21
  go_upto_region 6 with (first
    | (go_at_call 68; rw [← hT.eq]; refine (checkBoth_good na nb ao po bo qo la ca lp cp lb cb lq cq a b _ HX.out.1 HX.out.2.1 (by omega) (by omega) (by omega) (by omega) HX.out.2.2).mono ?_; rintro e U ⟨rfl, hb1⟩; obtain ⟨p0, p1, p2⟩ := hT.a.later hb1 (by omega); obtain ⟨q0, q1, q2⟩ := hT.b.later hb1 (by omega); obtain ⟨g5, g2, g3, g4⟩ := hT.r.later hb1 (by omega))
    | fail)
  have hsU := hb1.size
  have KU : Hid (∀ w' : World, Below U.heap.size U w' → w'.cell? ⟨w.heap.size, 0, none⟩ = some (.bool na) ∧ w'.cell? ⟨w.heap.size, 1, none⟩ = some (.slice ao la ca) ∧ w'.cell? ⟨w.heap.size, 2, none⟩ = some (.slice po lp cp) ∧ w'.cell? ⟨w.heap.size + 1, 0, none⟩ = some (.bool nb) ∧ w'.cell? ⟨w.heap.size + 1, 1, none⟩ = some (.slice bo lb cb) ∧ w'.cell? ⟨w.heap.size + 1, 2, none⟩ = some (.slice qo lq cq)) := fun w' h => KW.out w' (bnext hb1 h)
  have KS : Hid (∀ X : World, Below U.heap.size U X → ∀ x y z, (fun w' : World => w'.cell? ⟨w.heap.size, 0, none⟩ = some (.bool na) ∧ w'.cell? ⟨w.heap.size, 1, none⟩ = some (.slice ao la ca) ∧ w'.cell? ⟨w.heap.size, 2, none⟩ = some (.slice po lp cp) ∧ w'.cell? ⟨w.heap.size + 1, 0, none⟩ = some (.bool nb) ∧ w'.cell? ⟨w.heap.size + 1, 1, none⟩ = some (.slice bo lb cb) ∧ w'.cell? ⟨w.heap.size + 1, 2, none⟩ = some (.slice qo lq cq)) (((X.setCell ⟨w.heap.size + 1 + 1, 0, none⟩ x).setCell ⟨w.heap.size + 1 + 1, 1, none⟩ y).setCell ⟨w.heap.size + 1 + 1, 2, none⟩ z)) := fun X h x y z => by
    obtain ⟨h0, h1, h2, h3, h4, h5⟩ := KU.out X h
    (try dsimp only)
    rw [cell_off (by omega), cell_off (by omega), cell_off (by omega), cell_off (by omega), cell_off (by omega), cell_off (by omega), cell_off (by omega), cell_off (by omega), cell_off (by omega), cell_off (by omega), cell_off (by omega), cell_off (by omega), cell_off (by omega), cell_off (by omega), cell_off (by omega), cell_off (by omega), cell_off (by omega), cell_off (by omega)]
    exact ⟨h0, h1, h2, h3, h4, h5⟩
  have HU : Hid (RatAt U na ao la ca po lp cp a ∧ RatAt U nb bo lb cb qo lq cq b ∧ TabAt 0 Lib.deBruijn64tab U ∧ Fresh3 U (w.heap.size + 1 + 1) ∧ Below w.heap.size w U) := ⟨HX.out.1.later hb1, HX.out.2.1.later hb1, tab_later HX.out.2.2 hb1, HF.out.1.later hb1 (by omega), bnext HF.out.2 hb1⟩
  clear hT hb1 p0 p1 p2 q0 q1 q2 g5 g2 g3 g4 KW
  have hzU : U.heap.size ≤ U.drew.heap.size := Nat.le_refl _
  have S0 : Step8 0 := ⟨trivial⟩
  go_region_held3 (fun w' => (w'.cell? ⟨w.heap.size, 0, none⟩ = some (.bool na) ∧ w'.cell? ⟨w.heap.size, 1, none⟩ = some (.slice ao la ca) ∧ w'.cell? ⟨w.heap.size, 2, none⟩ = some (.slice po lp cp) ∧ w'.cell? ⟨w.heap.size + 1, 0, none⟩ = some (.bool nb) ∧ w'.cell? ⟨w.heap.size + 1, 1, none⟩ = some (.slice bo lb cb) ∧ w'.cell? ⟨w.heap.size + 1, 2, none⟩ = some (.slice qo lq cq)))
    (with_reducible (first | exact KS.out _ hbF2 _ _ _ | exact KU.out _ (Below.refl _ _).drew | exact KU.out _ (by assumption) | (refine KU.out _ ?_; (repeat (first | refine below_alloc ?_ (Nat.le_refl _) | refine Below.drew ?_ | refine below_set ?_ (by omega))); (first | exact hbF2 | exact hbF1 | exact Below.refl _ _))))
    (first
      | (have _t := S0; go_at_call 73; refine with_held (S := fun w9 => Below U.heap.size U w9) (by show Below _ _ _; with_reducible ((repeat (first | refine below_alloc ?_ (Nat.le_refl _) | refine Below.drew ?_ | refine below_set ?_ (by omega))); (first | exact hbF2 | exact hbF1 | exact Below.refl _ _))) (fun hS => ?_); refine (inverse_rat nb bo qo lb cb lq cq b _ (HU.out.2.1.later hS) h0 (by omega) (by omega)).mono ?_; rintro e f1 ⟨n1, o1, l1, c1, p1, m1, d1, rfl, hs, ho, hp, _, hb⟩; have H1 : Hid (RatAt f1 n1 o1 l1 c1 p1 m1 d1 (b⁻¹)) := ⟨ho.int hs, hp.row⟩; clear hs ho hp; have hbF1 : Below U.heap.size U f1 := bnext hS hb; have hzF1 := hbF1.size; clear hS hb S0; have S1 : Step8 1 := ⟨trivial⟩)
      | (have _t := S1; go_at_call 72; refine with_held (S := fun w9 => Below U.heap.size U w9) (by show Below _ _ _; with_reducible ((repeat (first | refine below_alloc ?_ (Nat.le_refl _) | refine Below.drew ?_ | refine below_set ?_ (by omega))); (first | exact hbF2 | exact hbF1 | exact Below.refl _ _))) (fun hS => ?_); refine with_held (S := fun w9 => Below f1.heap.size f1 w9) (by show Below _ _ _; with_reducible ((repeat (refine below_alloc ?_ (Nat.le_refl _))); exact Below.refl _ _)) (fun hS2 => ?_); refine (product_rat na n1 ao po o1 p1 la ca lp cp l1 c1 m1 d1 a b⁻¹ _ (HU.out.1.later hS) (H1.out.later hS2) HSz.out.1 (HSz.out.2.inv h0) (tab_later HU.out.2.2.1 hS)).mono ?_; rintro e f2 ⟨n2, o2, l2, c2, p2, m2, d2, rfl, hs, ho, hp, hpt, hb⟩; have H2 : Hid (n2 = sgB (a / b).num ∧ Own U.heap.size f2 .u64 66 o2 l2 c2 (mag (a / b).num.natAbs) ∧ Own U.heap.size f2 .u64 66 p2 m2 d2 (mag (a / b).den) ∧ Parted o2 p2 ∧ Below U.heap.size U f2) := ⟨(by rw [HV.out]; exact hs), (by rw [HV.out]; exact ho.mono hS.size), (by rw [HV.out]; exact hp.mono hS.size), hpt, bnext hS hb⟩; clear hs ho hp hpt; obtain ⟨k5, k2, k3, k4⟩ := HU.out.2.2.2.1.later (bnext hS hb) (by omega); have hbF2 : Below U.heap.size U f2 := bnext hS hb; have hzF2 := hbF2.size; clear hS hb S1; clear hS2; skip))
  all_goals go_wp2
  exact bodyPost_ret (v := .tuple #[.agg #[.bool n2, .slice o2 l2 c2, .slice p2 m2 d2], .int .i64 0]) (by simp [results, Tryz.results21, go_sem, k2, k3, k4]) rfl
    ⟨_, _, _, _, _, _, _, rfl, H2.out.1, (H2.out.2.1.store3 (by omega) _ _ _).mono (by omega), (H2.out.2.2.1.store3 (by omega) _ _ _).mono (by omega), H2.out.2.2.2.1, below_store3 (bnext HU.out.2.2.2.2 H2.out.2.2.2.2) (by omega) _ _ _⟩
end Go.Proofs.YtljmbnbilmghhaaGreatDoor
