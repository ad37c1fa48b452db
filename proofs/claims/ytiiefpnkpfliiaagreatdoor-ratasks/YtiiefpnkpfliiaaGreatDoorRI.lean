/-
  Walks: powers of rationals. (gen/rpow.py)
-/
import Derived.Test.YtiiefpnkpfliiaaGreatDoorRH
namespace Go.Proofs.YtiiefpnkpfliiaaGreatDoor
open Go.RowKit
set_option linter.unusedVariables false
set_option linter.unusedSimpArgs false

theorem inv_parts {a : Rat} (h0 : a ≠ 0) : sgB (a⁻¹).num = sgB a.num ∧ (a⁻¹).num.natAbs = a.den ∧ (a⁻¹).den = a.num.natAbs := by
  have hn : a.num ≠ 0 := fun e => h0 (Rat.num_eq_zero.1 e)
  have hd := a.den_pos
  rw [Rat.num_inv, Rat.den_inv, if_neg hn]
  refine ⟨?_, by rw [Int.natAbs_mul, Int.natAbs_sign_of_ne_zero hn]; simp, rfl⟩
  unfold sgB
  rcases Int.lt_or_gt_of_ne hn with h | h
  · rw [Int.sign_eq_neg_one_of_neg h, decide_eq_true h, decide_eq_true (by omega)]
  · rw [Int.sign_eq_one_of_pos h, decide_eq_false (by omega), decide_eq_false (by omega)]
set_option maxRecDepth 100000 in
set_option maxHeartbeats 2000000 in
theorem inverse_rat (na : Bool) (ao po : Option Addr) (la ca lp cp : Nat) (a : Rat) (w : World) (hx : RatAt w na ao la ca po lp cp a) (h0 : a ≠ 0) (hl : la ≤ 1073741824) (hl' : lp ≤ 1073741824) :
    Calls Tryz.prog 85 #[.agg #[.bool na, .slice ao la ca, .slice po lp cp]] w fun e w' => NewRat w w' e a⁻¹ := by
  obtain ⟨W, hT⟩ := ROne2.mk' w na ao po la ca lp cp
  have hsz := hT.size
  have HX : Hid (RatAt W na ao la ca po lp cp a) := hx.later hT.below
  have HI : Hid (sgB (a⁻¹).num = sgB a.num ∧ (a⁻¹).num.natAbs = a.den ∧ (a⁻¹).den = a.num.natAbs) := inv_parts h0
  have HS : Hid (na = sgB a.num) := hx.num.sg
  have KW : Hid (∀ w' : World, Below W.heap.size W w' → w'.cell? ⟨w.heap.size, 0, none⟩ = some (.bool na) ∧ w'.cell? ⟨w.heap.size, 1, none⟩ = some (.slice ao la ca) ∧ w'.cell? ⟨w.heap.size, 2, none⟩ = some (.slice po lp cp)) := fun w' h => ⟨(h.cell (p := ⟨w.heap.size, 0, none⟩) (by show w.heap.size < _; omega)).trans hT.a.1, (h.cell (p := ⟨w.heap.size, 1, none⟩) (by show w.heap.size < _; omega)).trans hT.a.2.1, (h.cell (p := ⟨w.heap.size, 2, none⟩) (by show w.heap.size < _; omega)).trans hT.a.2.2⟩
  have KS : Hid (∀ X : World, Below W.heap.size W X → ∀ x y z, (fun w' : World => w'.cell? ⟨w.heap.size, 0, none⟩ = some (.bool na) ∧ w'.cell? ⟨w.heap.size, 1, none⟩ = some (.slice ao la ca) ∧ w'.cell? ⟨w.heap.size, 2, none⟩ = some (.slice po lp cp)) (((X.setCell ⟨w.heap.size + 1, 0, none⟩ x).setCell ⟨w.heap.size + 1, 1, none⟩ y).setCell ⟨w.heap.size + 1, 2, none⟩ z)) := fun X h x y z => by
    obtain ⟨h1, h2, h3⟩ := KW.out X h
    (try dsimp only)
    rw [cell_off (by omega), cell_off (by omega), cell_off (by omega), cell_off (by omega), cell_off (by omega), cell_off (by omega), cell_off (by omega), cell_off (by omega), cell_off (by omega)]
    exact ⟨h1, h2, h3⟩
  have HF : Hid (Fresh3 W (w.heap.size + 1) ∧ Below w.heap.size w W) := ⟨hT.r, hT.below⟩
  clear hx
  go_enter Tryz.func85, Tryz.ntmps85
  go_upto_region 1 with fail
  rw [← hT.eq]
  clear hT
  have hzU : W.heap.size ≤ W.drew.heap.size := Nat.le_refl _
  have S0 : Step8 0 := ⟨trivial⟩
  go_region_held3 (fun w' => (w'.cell? ⟨w.heap.size, 0, none⟩ = some (.bool na) ∧ w'.cell? ⟨w.heap.size, 1, none⟩ = some (.slice ao la ca) ∧ w'.cell? ⟨w.heap.size, 2, none⟩ = some (.slice po lp cp)))
    (with_reducible (first | exact KS.out _ hbF2 _ _ _ | exact KW.out _ (Below.refl _ _).drew | exact KW.out _ (by assumption) | (refine KW.out _ ?_; (repeat (first | refine below_alloc ?_ (Nat.le_refl _) | refine Below.drew ?_ | refine below_set ?_ (by omega))); (first | exact hbF2 | exact hbF1 | exact Below.refl _ _))))
    (first
      | (have _t := S0; go_at_call 58; refine with_held (S := fun w9 => Below W.heap.size W w9) (by show Below _ _ _; with_reducible ((repeat (first | refine below_alloc ?_ (Nat.le_refl _) | refine Below.drew ?_ | refine below_set ?_ (by omega))); (first | exact hbF2 | exact hbF1 | exact Below.refl _ _))) (fun hS => ?_); refine (cloneNat_any po lp cp a.den _ (HX.out.den.later hS) hl').mono ?_; rintro e f1 ⟨o1, l1, c1, rfl, ho, hb⟩; have H1 : Hid (Own W.heap.size f1 .u64 59 o1 l1 c1 (mag a.den)) := ho.mono hS.size; clear ho; have hbF1 : Below W.heap.size W f1 := bnext hS hb; have hzF1 := hbF1.size; clear hS hb S0; have S1 : Step8 1 := ⟨trivial⟩)
      | (have _t := S1; go_at_call 58; refine with_held (S := fun w9 => Below W.heap.size W w9) (by show Below _ _ _; with_reducible ((repeat (first | refine below_alloc ?_ (Nat.le_refl _) | refine Below.drew ?_ | refine below_set ?_ (by omega))); (first | exact hbF2 | exact hbF1 | exact Below.refl _ _))) (fun hS => ?_); refine with_held (S := fun w9 => Below f1.heap.size f1 w9) (by show Below _ _ _; with_reducible ((repeat (refine below_alloc ?_ (Nat.le_refl _))); exact Below.refl _ _)) (fun hS2 => ?_); refine (cloneNat_any ao la ca a.num.natAbs _ (HX.out.num.row.later hS) hl).mono ?_; rintro e f2 ⟨o2, l2, c2, rfl, ho, hb⟩; have H2 : Hid (Own W.heap.size f2 .u64 59 o1 l1 c1 (mag a.den) ∧ Own W.heap.size f2 .u64 59 o2 l2 c2 (mag a.num.natAbs) ∧ Parted o1 o2 ∧ Below W.heap.size W f2) := ⟨H1.out.later (bnext hS2 hb), ho.mono hS.size, Parted.made H1.out ho hS2.size, bnext hS hb⟩; clear ho; obtain ⟨k5, k2, k3, k4⟩ := HF.out.1.later (bnext hS hb) (by omega); have hbF2 : Below W.heap.size W f2 := bnext hS hb; have hzF2 := hbF2.size; clear hS hb S1; clear hS2; skip))
  all_goals go_wp2
  have hs2 := H2.out.2.2.2.size
  exact bodyPost_ret (v := .agg #[.bool na, .slice o1 l1 c1, .slice o2 l2 c2]) (by simp [results, Tryz.results85, go_sem, k2, k3, k4]) rfl
    ⟨_, _, _, _, _, _, _, rfl, by rw [HI.out.1]; exact HS.out, by rw [HI.out.2.1]; exact (H2.out.1.store3 (by omega) _ _ _).mono (by omega), by rw [HI.out.2.2]; exact (H2.out.2.1.store3 (by omega) _ _ _).mono (by omega), H2.out.2.2.1, below_store3 (bnext HF.out.2 H2.out.2.2.2) (by omega) _ _ _⟩

/-- big's power of v serves -/
def PowFits (v : Int) (n : Nat) : Prop := ∀ (neg : Bool) (ao : Option Addr) (l c : Nat) (X : World), IntAt X neg ao l c v → Calls Tryz.prog 120 #[.agg #[.bool neg, .slice ao l c], .int .i64 (n : Int)] X fun e w' => NewIntErr X w' e (v ^ n)
theorem powfits_small {v : Int} {n : Nat} (hl : (mag v.natAbs).length ≤ 2) (hn : n ≤ 12) : PowFits v n := fun neg ao l c X h =>
  bpow_small neg ao l c n v X h (by rw [h.row.hlen]; omega) (by omega) (Nat.lt_of_le_of_lt (pow_len_le (K := 12) hl (by omega) (Nat.le_refl _)) (by decide)) (Nat.lt_of_le_of_lt (pow_len_le (K := 12) hl hn (Nat.le_refl _)) (by decide))

set_option maxRecDepth 100000 in
set_option maxHeartbeats 2000000 in
theorem power_rat (na : Bool) (ao po : Option Addr) (la ca lp cp : Nat) (n : Nat) (a : Rat) (w : World) (hx : RatAt w na ao la ca po lp cp a) (hp1 : PowFits a.num n) (hp2 : PowFits (a.den : Int) n) :
    Calls Tryz.prog 84 #[.agg #[.bool na, .slice ao la ca, .slice po lp cp], .int .i64 (n : Int)] w fun e w' => NewRat w w' e (a ^ n) := by
  obtain ⟨W, hT⟩ := ROne2.mk' w na ao po la ca lp cp
  have hsz := hT.size
  have HX : Hid (RatAt W na ao la ca po lp cp a) := hx.later hT.below
  obtain ⟨R, hR⟩ : ∃ R : Rat, R = a ^ n := ⟨_, rfl⟩
  obtain ⟨N, hN⟩ : ∃ N : Int, N = a.num ^ n := ⟨_, rfl⟩
  obtain ⟨D, hD⟩ : ∃ D : Int, D = (a.den : Int) ^ n := ⟨_, rfl⟩
  have HR : Hid (R.num = N ∧ R.den = D.natAbs) := ⟨by rw [hR, hN, Rat.num_pow], by rw [hR, hD, Rat.den_pow, Int.natAbs_pow, Int.natAbs_natCast]⟩
  have hc1 : ∀ X, Below W.heap.size W X → Calls Tryz.prog 120 #[.agg #[.bool na, .slice ao la ca], .int .i64 (n : Int)] X fun e w' => NewIntErr X w' e N := fun X h => by rw [hN]; exact hp1 na ao la ca X (HX.out.num.later h)
  have hc2 : ∀ X, Below W.heap.size W X → Calls Tryz.prog 120 #[.agg #[.bool false, .slice po lp cp], .int .i64 (n : Int)] X fun e w' => NewIntErr X w' e D := fun X h => by rw [hD]; exact hp2 false po lp cp X (row_int (HX.out.den.later h))
  rw [← hR]
  clear hx hp1 hp2 hR hN hD HX
  go_enter Tryz.func84, Tryz.ntmps84
  go_wp2_with (first
    | (go_at_call 120; have _t := HA1; refine (hc2 _ HA1.out.2.1).mono ?_; rintro e y2 ⟨n2, o2, l2, c2, rfl, hs2, ho2, hb2⟩; have H2 : Hid (Own _ y2 .u64 59 o2 l2 c2 (mag D.natAbs) ∧ Below (y1.alloc (.cells #[.bool n1, .slice o1 l1 c1] 26)).heap.size (y1.alloc (.cells #[.bool n1, .slice o1 l1 c1] 26)) y2) := ⟨ho2, hb2⟩; clear hs2 ho2 hb2 p0 p1 p2; obtain ⟨q0, q1⟩ := (HA1.out.1.later H2.out.2).box; obtain ⟨k5, k2, k3, k4⟩ := hT.r.later (bnext HA1.out.2.1 H2.out.2) (by omega); have hlt2 := (HA1.out.1.later H2.out.2).lt; have hlt3 : w.heap.size + 1 < y2.heap.size := (by have := (bnext HA1.out.2.1 H2.out.2).size; omega))
    | (go_at_call 120; rw [← hT.eq]; refine (hc1 _ (Below.refl _ _)).mono ?_; rintro e y1 ⟨n1, o1, l1, c1, rfl, hs1, ho1, hb1⟩; have HO1 : Hid (n1 = sgB N ∧ Own W.heap.size y1 .u64 59 o1 l1 c1 (mag N.natAbs)) := ⟨hs1, ho1⟩; have HA1 := InVar.new (v := N) (Below.refl _ W) hs1 ho1 hb1; clear hs1 ho1; have hz1 := hb1.size; clear hb1; obtain ⟨p0, p1, p2⟩ := hT.a.later HA1.out.2.1 (by omega)))
  have hb3 : Below W.heap.size W y2 := bnext HA1.out.2.1 H2.out.2
  have hs3 := hb3.size
  have hO1 : Own W.heap.size y2 .u64 59 o1 l1 c1 (mag R.num.natAbs) := by rw [HR.out.1]; exact (own_alloc (o := .cells #[.bool n1, .slice o1 l1 c1] 26) HO1.out.2).later H2.out.2
  have hO2 : Own W.heap.size y2 .u64 59 o2 l2 c2 (mag R.den) := by rw [HR.out.2]; exact H2.out.1.mono (B' := W.heap.size) (by have := HA1.out.2.1.size; omega)
  have hne : w.heap.size + 1 ≠ y2.heap.size := by omega
  exact bodyPost_ret (v := .agg #[.bool n1, .slice o1 l1 c1, .slice o2 l2 c2]) (by simp [results, Tryz.results84, go_sem, k2, k3, k4, hlt3, hne]) rfl
    ⟨_, _, _, _, _, _, _, rfl, by rw [HR.out.1]; exact HO1.out.1, own_alloc ((hO1.store3 (by omega) _ _ _).mono (by omega)), own_alloc ((hO2.store3 (by omega) _ _ _).mono (by omega)), Parted.made (own_alloc (o := .cells #[.bool n1, .slice o1 l1 c1] 26) HO1.out.2) H2.out.1 (Nat.le_refl _), below_alloc (below_store3 (bnext hT.below hb3) (by omega) _ _ _) (Nat.le_refl _)⟩

theorem inv_pow (a : Rat) (n : Nat) : (a⁻¹) ^ n = a ^ (-(n : Int)) := by
  rw [Rat.zpow_neg, Rat.zpow_natCast]
  induction n with
  | zero => rw [Rat.pow_zero, Rat.pow_zero]; have := Rat.inv_mul_cancel 1 (by decide); rw [Rat.mul_one] at this; exact this.symm
  | succ k ih => rw [Rat.pow_succ, Rat.pow_succ, ih, Rat.inv_mul_rev, Rat.mul_comm]
set_option maxRecDepth 100000 in
set_option maxHeartbeats 2000000 in
theorem pow_rat (na : Bool) (ao po : Option Addr) (la ca lp cp : Nat) (n : Int) (a : Rat) (w : World) (hx : RatAt w na ao la ca po lp cp a) (h0 : a ≠ 0) (hn : -64 ≤ n ∧ n ≤ 64) (hl : la ≤ 1073741824) (hl' : lp ≤ 1073741824) (hT0 : TabAt 0 Lib.deBruijn64tab w) (hp : (PowFits a.num n.natAbs ∧ PowFits (a.den : Int) n.natAbs) ∧ (PowFits (a⁻¹).num n.natAbs ∧ PowFits ((a⁻¹).den : Int) n.natAbs)) :
    Calls Tryz.prog 38 #[.agg #[.bool na, .slice ao la ca, .slice po lp cp], .int .i64 n] w fun e w' => NewRatErr w w' e (a ^ n) := by
  obtain ⟨W, hT⟩ := ROne2.mk' w na ao po la ca lp cp
  have hsz := hT.size
  have HX : Hid (RatAt W na ao la ca po lp cp a ∧ TabAt 0 Lib.deBruijn64tab W) := ⟨hx.later hT.below, tab_later hT0 hT.below⟩
  have HP : Hid ((PowFits a.num n.natAbs ∧ PowFits (a.den : Int) n.natAbs) ∧ (PowFits (a⁻¹).num n.natAbs ∧ PowFits ((a⁻¹).den : Int) n.natAbs)) := hp
  have hla : ((la : Int) == 0) = false := by
    have h1 : 0 < la := by
      rw [hx.num.row.hlen]; refine mag_len_pos.2 ?_
      have : a.num ≠ 0 := fun e => h0 (Rat.num_eq_zero.1 e)
      omega
    simp; omega
  obtain ⟨hn1, hn2⟩ := hn
  by_cases hs : n < 0
  · obtain ⟨k, rfl⟩ : ∃ k : Nat, n = -(k : Int) := ⟨n.natAbs, by omega⟩
    have c1 : decide (-(k : Int) < -64) = false := decide_eq_false (by omega)
    have c2 : decide ((64 : Int) < -(k : Int)) = false := decide_eq_false (by omega)
    have c3 : decide (-(k : Int) < 0) = true := decide_eq_true hs
    have hcon : ∀ (n1 : Bool) (o1 : Option Addr) (l1 c1 : Nat) (p1 : Option Addr) (m1 d1 : Nat) (X : World), RatAt X n1 o1 l1 c1 p1 m1 d1 a⁻¹ → Calls Tryz.prog 84 #[.agg #[.bool n1, .slice o1 l1 c1, .slice p1 m1 d1], .int .i64 (k : Int)] X fun e w' => NewRat X w' e (a ^ (-(k : Int))) := fun n1 o1 l1 e1 p1 m1 d1 X h => by
      have := power_rat n1 o1 p1 l1 e1 m1 d1 k a⁻¹ X h (by have := HP.out.2.1; rwa [Int.natAbs_neg, Int.natAbs_natCast] at this) (by have := HP.out.2.2; rwa [Int.natAbs_neg, Int.natAbs_natCast] at this)
      rw [inv_pow] at this; exact this
    generalize a ^ (-(k : Int)) = R at hcon ⊢
    clear hx hT0 hp
    go_enter Tryz.func38, Tryz.ntmps38
    go_wp2_with (first
      | (go_at_call 10; rw [← hT.eq]; refine (rcheck_good na ao po la ca lp cp a _ HX.out.1 hl hl' HX.out.2).mono ?_; rintro e w1 ⟨rfl, hb1⟩; obtain ⟨p0, p1, p2⟩ := hT.a.later hb1 (by omega); obtain ⟨g5, g2, g3, g4⟩ := hT.r.later hb1 (by omega))
      | (go_at_call 85; refine (inverse_rat na ao po la ca lp cp a _ (HX.out.1.later hb1) h0 hl hl').mono ?_; rintro e w2 ⟨n2, o2, l2, c2', o3, l3, c3', rfl, hs2, ho2, ho3, hp2, hb2⟩; have HI : Hid (RatAt w2 n2 o2 l2 c2' o3 l3 c3' a⁻¹ ∧ Below w1.heap.size w1 w2) := ⟨⟨ho2.int hs2, ho3.row⟩, hb2⟩; clear hs2 ho2 ho3 hp2 hb2)
      | (go_at_call 84; refine (hcon n2 o2 l2 c2' o3 l3 c3' _ HI.out.1).mono ?_; rintro e w3 ⟨n4, o4, l4, c4, o5, l5, c5, rfl, hs4, ho4, ho5, hp4, hb4⟩; have HS : Hid (n4 = sgB R.num ∧ Below W.heap.size W w3 ∧ W.heap.size ≤ w2.heap.size) := ⟨hs4, bnext hb1 (bnext HI.out.2 hb4), (bnext hb1 HI.out.2).size⟩; clear hs4 hb4 g5 g2 g3 g4 p0 p1 p2; obtain ⟨g5, g2, g3, g4⟩ := hT.r.later HS.out.2.1 (by omega)))
    have hz := HS.out.2.2
    exact bodyPost_ret (v := .tuple #[.agg #[.bool n4, .slice o4 l4 c4, .slice o5 l5 c5], .int .i64 0]) (by simp [results, Tryz.results38, go_sem, g2, g3, g4]) rfl
      ⟨_, _, _, _, _, _, _, rfl, HS.out.1, (ho4.store3 (by omega) _ _ _).mono (by omega), (ho5.store3 (by omega) _ _ _).mono (by omega), hp4, below_store3 (bnext hT.below HS.out.2.1) (by omega) _ _ _⟩
  · obtain ⟨k, rfl⟩ : ∃ k : Nat, n = (k : Int) := ⟨n.natAbs, by omega⟩
    have c1 : decide ((k : Int) < -64) = false := decide_eq_false (by omega)
    have c2 : decide ((64 : Int) < (k : Int)) = false := decide_eq_false (by omega)
    have c3 : decide ((k : Int) < 0) = false := decide_eq_false hs
    have hcon : ∀ X : World, RatAt X na ao la ca po lp cp a → Calls Tryz.prog 84 #[.agg #[.bool na, .slice ao la ca, .slice po lp cp], .int .i64 (k : Int)] X fun e w' => NewRat X w' e (a ^ (k : Int)) := fun X h => by
      rw [Rat.zpow_natCast]
      exact power_rat na ao po la ca lp cp k a X h (by have := HP.out.1.1; rwa [Int.natAbs_natCast] at this) (by have := HP.out.1.2; rwa [Int.natAbs_natCast] at this)
    generalize a ^ (k : Int) = R at hcon ⊢
    clear hx hT0 hp
    go_enter Tryz.func38, Tryz.ntmps38
    go_wp2_with (first
      | (go_at_call 10; rw [← hT.eq]; refine (rcheck_good na ao po la ca lp cp a _ HX.out.1 hl hl' HX.out.2).mono ?_; rintro e w1 ⟨rfl, hb1⟩; obtain ⟨p0, p1, p2⟩ := hT.a.later hb1 (by omega); obtain ⟨g5, g2, g3, g4⟩ := hT.r.later hb1 (by omega))
      | (go_at_call 84; refine (hcon _ (HX.out.1.later hb1)).mono ?_; rintro e w3 ⟨n4, o4, l4, c4, o5, l5, c5, rfl, hs4, ho4, ho5, hp4, hb4⟩; have HS : Hid (n4 = sgB R.num ∧ Below W.heap.size W w3 ∧ W.heap.size ≤ w1.heap.size) := ⟨hs4, bnext hb1 hb4, hb1.size⟩; clear hs4 hb4 g5 g2 g3 g4 p0 p1 p2; obtain ⟨g5, g2, g3, g4⟩ := hT.r.later HS.out.2.1 (by omega)))
    have hz := HS.out.2.2
    exact bodyPost_ret (v := .tuple #[.agg #[.bool n4, .slice o4 l4 c4, .slice o5 l5 c5], .int .i64 0]) (by simp [results, Tryz.results38, go_sem, g2, g3, g4]) rfl
      ⟨_, _, _, _, _, _, _, rfl, HS.out.1, (ho4.store3 (by omega) _ _ _).mono (by omega), (ho5.store3 (by omega) _ _ _).mono (by omega), hp4, below_store3 (bnext hT.below HS.out.2.1) (by omega) _ _ _⟩
end Go.Proofs.YtiiefpnkpfliiaaGreatDoor
