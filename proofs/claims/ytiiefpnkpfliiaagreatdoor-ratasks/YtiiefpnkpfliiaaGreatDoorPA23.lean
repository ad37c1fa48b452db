/-
  Walks: how rationals stand to each other; sign, whole part, middle. (gen/rcmp.py)
-/
import Derived.Test.YtiiefpnkpfliiaaGreatDoorPA16
import Derived.Test.YtiiefpnkpfliiaaGreatDoorPA17
import Derived.Test.YtiiefpnkpfliiaaGreatDoorPA18
import Derived.Test.YtiiefpnkpfliiaaGreatDoorPA22
namespace Go.Proofs.YtiiefpnkpfliiaaGreatDoor
open Go.RowKit
set_option linter.unusedVariables false
set_option linter.unusedSimpArgs false
theorem cmp_parts {n m : Int} {ad bd : Nat} (ha : 0 < ad) (hb : 0 < bd) (h : cmpI n 0 ≠ cmpI m 0 ∨ cmpI n 0 = 0) : cmpI (cmpI n 0) (cmpI m 0) = cmpI (n * (bd : Int)) (m * (ad : Int)) := by
  have p1 : ∀ {x : Int} {k : Nat}, 0 < k → 0 < x → 0 < x * (k : Int) := fun hk hx => Int.mul_pos hx (by omega)
  have p2 : ∀ {x : Int} {k : Nat}, 0 < k → x < 0 → x * (k : Int) < 0 := fun hk hx => Int.mul_neg_of_neg_of_pos hx (by omega)
  rcases Int.lt_trichotomy n 0 with h1 | h1 | h1 <;> rcases Int.lt_trichotomy m 0 with h2 | h2 | h2
  · exfalso; revert h; unfold cmpI; simp [h1, h2]
  · subst h2; have := p2 hb h1; unfold cmpI; simp [h1, this]
  · have := p2 hb h1; have := p1 ha h2; unfold cmpI; rw [if_pos (show n * (bd : Int) < m * (ad : Int) by omega), if_pos h1, if_neg (show ¬ m < 0 by omega), if_pos h2]; decide
  · subst h1; have := p2 ha h2; unfold cmpI; rw [if_pos h2, Int.zero_mul, if_neg (show ¬ 0 < m * (ad : Int) by omega), if_pos this]; decide
  · subst h1; subst h2; unfold cmpI; simp
  · subst h1; have := p1 ha h2; unfold cmpI; rw [Int.zero_mul, if_pos this, if_neg (show ¬ m < 0 by omega), if_pos h2]; decide
  · have := p1 hb h1; have := p2 ha h2; unfold cmpI; rw [if_neg (show ¬ n * (bd : Int) < m * (ad : Int) by omega), if_pos (show m * (ad : Int) < n * (bd : Int) by omega), if_neg (show ¬ n < 0 by omega), if_pos h1, if_pos h2]; decide
  · subst h2; have := p1 hb h1; unfold cmpI; rw [Int.zero_mul, if_neg (show ¬ n * (bd : Int) < 0 by omega), if_pos this, if_neg (show ¬ n < 0 by omega), if_pos h1]; decide
  · exfalso; revert h; unfold cmpI; rw [if_neg (show ¬ n < 0 by omega), if_pos h1, if_neg (show ¬ m < 0 by omega), if_pos h2]; decide
/-- how two rationals stand to each other -/
def cmpQ (a b : Rat) : Int := cmpI (a.num * (b.den : Int)) (b.num * (a.den : Int))
theorem cmpI_vals (n m : Int) : cmpI n m = -1 ∨ cmpI n m = 0 ∨ cmpI n m = 1 := by
  unfold cmpI
  split
  · exact Or.inl rfl
  · split
    · exact Or.inr (Or.inr rfl)
    · exact Or.inr (Or.inl rfl)
theorem isNaN_any (n : Int) (w : World) : Calls Tryz.prog 133 #[.int .i64 n] w fun e w' => e = .returned (.bool false) ∧ w' = w := by
  go_enter Tryz.func133, Tryz.ntmps133
  go_wp2
  go_ret
  exact ⟨by simp, rfl⟩
theorem compareInt_any (s t : Int) (w : World) (c : Int) (hc : cmpI s t = c) : Calls Tryz.prog 106 #[.int .i64 s, .int .i64 t] w fun e w' => e = .returned (.int .i64 c) ∧ w' = w := by
  rcases Int.lt_trichotomy s t with h | h | h
  · obtain rfl : c = -1 := by rw [← hc]; unfold cmpI; rw [if_pos h]
    clear hc
    go_enter Tryz.func106, Tryz.ntmps106
    go_wp2_with (go_at_call 133; refine (isNaN_any _ _).mono ?_; rintro e x ⟨rfl, hx⟩; replace hx := hx.symm; subst hx)
    go_ret
    exact ⟨rfl, rfl⟩
  · subst h
    obtain rfl : c = 0 := by rw [← hc]; unfold cmpI; rw [if_neg (by omega), if_neg (by omega)]
    clear hc
    go_enter Tryz.func106, Tryz.ntmps106
    go_wp2_with (go_at_call 133; refine (isNaN_any _ _).mono ?_; rintro e x ⟨rfl, hx⟩; replace hx := hx.symm; subst hx)
    go_ret
    exact ⟨rfl, rfl⟩
  · have h1 : ¬ s < t := by omega
    obtain rfl : c = 1 := by rw [← hc]; unfold cmpI; rw [if_neg h1, if_pos h]
    clear hc
    go_enter Tryz.func106, Tryz.ntmps106
    go_wp2_with (go_at_call 133; refine (isNaN_any _ _).mono ?_; rintro e x ⟨rfl, hx⟩; replace hx := hx.symm; subst hx)
    go_ret
    exact ⟨rfl, rfl⟩
set_option maxRecDepth 100000 in
set_option maxHeartbeats 4000000 in
theorem compare_rat (na nb : Bool) (ao po bo qo : Option Addr) (la ca lp cp lb cb lq cq : Nat) (a b : Rat) (w : World) (hx : RatAt w na ao la ca po lp cp a) (hy : RatAt w nb bo lb cb qo lq cq b) (ha : Sz a 10000) (hb : Sz b 10000) (c : Int) (hc : cmpQ a b = c) :
    Calls Tryz.prog 74 #[.agg #[.bool na, .slice ao la ca, .slice po lp cp], .agg #[.bool nb, .slice bo lb cb, .slice qo lq cq]] w fun e w' => e = .returned (.int .i64 c) ∧ Below w.heap.size w w' := by
  obtain ⟨W, hT⟩ := RTwo2.mk' w na nb ao po bo qo la ca lp cp lb cb lq cq
  have hsz := hT.size
  have HX : Hid (RatAt W na ao la ca po lp cp a ∧ RatAt W nb bo lb cb qo lq cq b ∧ Below w.heap.size w W) := ⟨hx.later hT.below, hy.later hT.below, hT.below⟩
  have hla : la ≤ 10000 := (hx.len ha).1
  have hlp : lp ≤ 10000 := (hx.len ha).2
  have hlb : lb ≤ 10000 := (hy.len hb).1
  have hlq : lq ≤ 10000 := (hy.len hb).2
  have KW : Hid (∀ w' : World, Below W.heap.size W w' → w'.cell? ⟨w.heap.size, 0, none⟩ = some (.bool na) ∧ w'.cell? ⟨w.heap.size, 1, none⟩ = some (.slice ao la ca) ∧ w'.cell? ⟨w.heap.size, 2, none⟩ = some (.slice po lp cp) ∧ w'.cell? ⟨w.heap.size + 1, 0, none⟩ = some (.bool nb) ∧ w'.cell? ⟨w.heap.size + 1, 1, none⟩ = some (.slice bo lb cb) ∧ w'.cell? ⟨w.heap.size + 1, 2, none⟩ = some (.slice qo lq cq)) := fun w' h => ⟨(h.cell (p := ⟨w.heap.size, 0, none⟩) (by show w.heap.size < _; omega)).trans hT.a.1, (h.cell (p := ⟨w.heap.size, 1, none⟩) (by show w.heap.size < _; omega)).trans hT.a.2.1, (h.cell (p := ⟨w.heap.size, 2, none⟩) (by show w.heap.size < _; omega)).trans hT.a.2.2, (h.cell (p := ⟨w.heap.size + 1, 0, none⟩) (by show w.heap.size + 1 < _; omega)).trans hT.b.1, (h.cell (p := ⟨w.heap.size + 1, 1, none⟩) (by show w.heap.size + 1 < _; omega)).trans hT.b.2.1, (h.cell (p := ⟨w.heap.size + 1, 2, none⟩) (by show w.heap.size + 1 < _; omega)).trans hT.b.2.2⟩
  obtain ⟨s, hs⟩ : ∃ s, cmpI a.num 0 = s := ⟨_, rfl⟩
  obtain ⟨t, ht⟩ : ∃ t, cmpI b.num 0 = t := ⟨_, rfl⟩
  have hs3 : s = -1 ∨ s = 0 ∨ s = 1 := hs ▸ cmpI_vals a.num 0
  have ht3 : t = -1 ∨ t = 0 ∨ t = 1 := ht ▸ cmpI_vals b.num 0
  have HC : Hid (cmpI a.num 0 = s ∧ cmpI b.num 0 = t ∧ cmpI (a.num * (b.den : Int)) (b.num * (a.den : Int)) = c) := ⟨hs, ht, hc⟩
  have HL : Hid ((mag (a.num * (b.den : Int)).natAbs).length ≤ 30000 ∧ (mag (b.num * (a.den : Int)).natAbs).length ≤ 30000) := by
    have h2 := mul_len a.num (b.den : Int)
    have h3 := mul_len b.num (a.den : Int)
    rw [Int.natAbs_natCast] at h2 h3
    have := ha.1; have := ha.2; have := hb.1; have := hb.2
    refine ⟨?_, ?_⟩ <;> omega
  clear hx hy ha hb hs ht hc
  go_enter Tryz.func74, Tryz.ntmps74
  go_upto_region 1 with fail
  rw [← hT.eq]
  clear hT
  have hzU : W.heap.size ≤ W.drew.heap.size := Nat.le_refl _
  have S0 : Step8 0 := ⟨trivial⟩
  go_region_held3 (fun w' => (w'.cell? ⟨w.heap.size, 0, none⟩ = some (.bool na) ∧ w'.cell? ⟨w.heap.size, 1, none⟩ = some (.slice ao la ca) ∧ w'.cell? ⟨w.heap.size, 2, none⟩ = some (.slice po lp cp) ∧ w'.cell? ⟨w.heap.size + 1, 0, none⟩ = some (.bool nb) ∧ w'.cell? ⟨w.heap.size + 1, 1, none⟩ = some (.slice bo lb cb) ∧ w'.cell? ⟨w.heap.size + 1, 2, none⟩ = some (.slice qo lq cq)))
    (with_reducible (first | exact KW.out _ (Below.refl _ _).drew | exact KW.out _ (by assumption) | (refine KW.out _ ?_; (repeat (first | refine below_alloc ?_ (Nat.le_refl _) | refine Below.drew ?_ | refine below_set ?_ (by omega))); (first | exact hbF2 | exact hbF1 | exact Below.refl _ _))))
    (first
      | (have _t := S0; go_at_call 55; refine with_held (S := fun w9 => Below W.heap.size W w9) (by show Below _ _ _; with_reducible ((repeat (first | refine below_alloc ?_ (Nat.le_refl _) | refine Below.drew ?_ | refine below_set ?_ (by omega))); (first | exact hbF2 | exact hbF1 | exact Below.refl _ _))) (fun hS => ?_); refine (bsign_any na ao la ca a.num _ (HX.out.1.num.later hS) (by omega) s HC.out.1).mono ?_; rintro e f1 ⟨rfl, hb⟩; skip; have hbF1 : Below W.heap.size W f1 := bnext hS hb; have hzF1 := hbF1.size; clear hS hb S0; have S1 : Step8 1 := ⟨trivial⟩)
      | (have _t := S1; go_at_call 55; refine with_held (S := fun w9 => Below W.heap.size W w9) (by show Below _ _ _; with_reducible ((repeat (first | refine below_alloc ?_ (Nat.le_refl _) | refine Below.drew ?_ | refine below_set ?_ (by omega))); (first | exact hbF2 | exact hbF1 | exact Below.refl _ _))) (fun hS => ?_); refine with_held (S := fun w9 => Below f1.heap.size f1 w9) (by show Below _ _ _; with_reducible ((repeat (refine below_alloc ?_ (Nat.le_refl _))); exact Below.refl _ _)) (fun hS2 => ?_); refine (bsign_any nb bo lb cb b.num _ (HX.out.2.1.num.later hS) (by omega) t HC.out.2.1).mono ?_; rintro e f2 ⟨rfl, hb⟩; skip; have hbF2 : Below W.heap.size W f2 := bnext hS hb; have hzF2 := hbF2.size; clear hS hb S1; clear hS2; skip))
  obtain ⟨U, hU⟩ : ∃ U, U = f2 := ⟨_, rfl⟩
  subst hU
  have HU : Hid (RatAt U na ao la ca po lp cp a ∧ RatAt U nb bo lb cb qo lq cq b ∧ Below w.heap.size w U) := ⟨HX.out.1.later hbF2, HX.out.2.1.later hbF2, bnext HX.out.2.2 hbF2⟩
  have KU : Hid (∀ w' : World, Below U.heap.size U w' → w'.cell? ⟨w.heap.size, 0, none⟩ = some (.bool na) ∧ w'.cell? ⟨w.heap.size, 1, none⟩ = some (.slice ao la ca) ∧ w'.cell? ⟨w.heap.size, 2, none⟩ = some (.slice po lp cp) ∧ w'.cell? ⟨w.heap.size + 1, 0, none⟩ = some (.bool nb) ∧ w'.cell? ⟨w.heap.size + 1, 1, none⟩ = some (.slice bo lb cb) ∧ w'.cell? ⟨w.heap.size + 1, 2, none⟩ = some (.slice qo lq cq)) := fun w' h => KW.out w' (bnext hbF2 h)
  clear HX hbF2 hzF2 hbF1 hzF1 KW
  by_cases hq : s ≠ t ∨ s = 0
  · as_aux_lemma =>
    have HR : Hid (cmpI s t = c) := by
      have h1 := cmp_parts (n := a.num) (m := b.num) (ad := a.den) (bd := b.den) a.den_pos b.den_pos (by rw [HC.out.1, HC.out.2.1]; exact hq)
      rw [HC.out.1, HC.out.2.1, HC.out.2.2] at h1; exact h1
    clear HC
    rcases hs3 with rfl | rfl | rfl <;> rcases ht3 with rfl | rfl | rfl
    all_goals first
      | (exfalso; revert hq; decide)
      | (clear hq; go_wp2_with (go_at_call 106; refine (compareInt_any _ _ _ c HR.out).mono ?_; rintro e x ⟨rfl, hx⟩; replace hx := hx.symm; subst hx); go_ret; exact ⟨rfl, HU.out.2.2⟩)
  · as_aux_lemma =>
    obtain ⟨hst, hs0⟩ : s = t ∧ s ≠ 0 := ⟨Decidable.byContradiction fun e => hq (Or.inl e), fun e => hq (Or.inr e)⟩
    subst hst
    have hs0' : (s == 0) = false := by simpa using hs0
    clear hq hs3 ht3 hs0
    go_upto_region 4 with fail
    have hzU : U.heap.size ≤ U.drew.heap.size := Nat.le_refl _
    have S0 : Step8 0 := ⟨trivial⟩
    go_region_held3 (fun w' => (w'.cell? ⟨w.heap.size, 0, none⟩ = some (.bool na) ∧ w'.cell? ⟨w.heap.size, 1, none⟩ = some (.slice ao la ca) ∧ w'.cell? ⟨w.heap.size, 2, none⟩ = some (.slice po lp cp) ∧ w'.cell? ⟨w.heap.size + 1, 0, none⟩ = some (.bool nb) ∧ w'.cell? ⟨w.heap.size + 1, 1, none⟩ = some (.slice bo lb cb) ∧ w'.cell? ⟨w.heap.size + 1, 2, none⟩ = some (.slice qo lq cq)))
      (with_reducible (first | exact KU.out _ (Below.refl _ _).drew | exact KU.out _ (by assumption) | (refine KU.out _ ?_; (repeat (first | refine below_alloc ?_ (Nat.le_refl _) | refine Below.drew ?_ | refine below_set ?_ (by omega))); (first | exact hbF3 | exact hbF2 | exact hbF1 | exact Below.refl _ _))))
      (first
        | (have _t := S0; go_at_call 108; refine with_held (S := fun w9 => Below U.heap.size U w9) (by show Below _ _ _; with_reducible ((repeat (first | refine below_alloc ?_ (Nat.le_refl _) | refine Below.drew ?_ | refine below_set ?_ (by omega))); (first | exact hbF3 | exact hbF2 | exact hbF1 | exact Below.refl _ _))) (fun hS => ?_); refine (timesNat_any na ao qo la ca lq cq a.num b.den _ (HU.out.1.num.later hS) (HU.out.2.1.den.later hS) (by omega) (by omega)).mono ?_; rintro e f1 ⟨n3, o3, l3, c3, rfl, hs, ho3, hb⟩; have H1 : Hid (IntAt f1 n3 o3 l3 c3 (a.num * (b.den : Int))) := ho3.int hs; have hl3 : l3 ≤ 30000 := (by rw [ho3.row.hlen]; exact HL.out.1); clear hs ho3; have hbF1 : Below U.heap.size U f1 := bnext hS hb; have hzF1 := hbF1.size; clear hS hb S0; have S1 : Step8 1 := ⟨trivial⟩)
        | (have _t := S1; go_at_call 108; refine with_held (S := fun w9 => Below U.heap.size U w9) (by show Below _ _ _; with_reducible ((repeat (first | refine below_alloc ?_ (Nat.le_refl _) | refine Below.drew ?_ | refine below_set ?_ (by omega))); (first | exact hbF3 | exact hbF2 | exact hbF1 | exact Below.refl _ _))) (fun hS => ?_); refine with_held (S := fun w9 => Below f1.heap.size f1 w9) (by show Below _ _ _; with_reducible ((repeat (refine below_alloc ?_ (Nat.le_refl _))); exact Below.refl _ _)) (fun hS2 => ?_); refine (timesNat_any nb bo po lb cb lp cp b.num a.den _ (HU.out.2.1.num.later hS) (HU.out.1.den.later hS) (by omega) (by omega)).mono ?_; rintro e f2 ⟨n4, o4, l4, c4, rfl, hs, ho4, hb⟩; have H2 : Hid (IntAt f2 n3 o3 l3 c3 (a.num * (b.den : Int)) ∧ IntAt f2 n4 o4 l4 c4 (b.num * (a.den : Int))) := ⟨H1.out.later (bnext hS2 hb), ho4.int hs⟩; have hl4 : l4 ≤ 30000 := (by rw [ho4.row.hlen]; exact HL.out.2); clear hs ho4; have hbF2 : Below U.heap.size U f2 := bnext hS hb; have hzF2 := hbF2.size; clear hS hb S1; clear hS2; have S2 : Step8 2 := ⟨trivial⟩)
        | (have _t := S2; go_at_call 107; refine with_held (S := fun w9 => Below U.heap.size U w9) (by show Below _ _ _; with_reducible ((repeat (first | refine below_alloc ?_ (Nat.le_refl _) | refine Below.drew ?_ | refine below_set ?_ (by omega))); (first | exact hbF3 | exact hbF2 | exact hbF1 | exact Below.refl _ _))) (fun hS => ?_); refine with_held (S := fun w9 => Below f2.heap.size f2 w9) (by show Below _ _ _; with_reducible ((repeat (refine below_alloc ?_ (Nat.le_refl _))); exact Below.refl _ _)) (fun hS2 => ?_); refine (bcmp_any n3 n4 o3 o4 l3 c3 l4 c4 _ _ _ (H2.out.1.later hS2) (H2.out.2.later hS2) (by omega) (by omega) c HC.out.2.2).mono ?_; rintro e f3 ⟨rfl, hb⟩; skip; have hbF3 : Below U.heap.size U f3 := bnext hS hb; have hzF3 := hbF3.size; clear hS hb S2; clear hS2; skip))
    all_goals go_wp2
    go_ret
    exact ⟨rfl, bnext HU.out.2.2 hbF3⟩
set_option maxRecDepth 100000 in
set_option maxHeartbeats 4000000 in
theorem cmp_rat (na nb : Bool) (ao po bo qo : Option Addr) (la ca lp cp lb cb lq cq : Nat) (a b : Rat) (w : World) (hx : RatAt w na ao la ca po lp cp a) (hy : RatAt w nb bo lb cb qo lq cq b) (ha : Sz a 10000) (hb : Sz b 10000) (hT0 : TabAt 0 Lib.deBruijn64tab w) (c : Int) (hc : cmpQ a b = c) :
    Calls Tryz.prog 30 #[.agg #[.bool na, .slice ao la ca, .slice po lp cp], .agg #[.bool nb, .slice bo lb cb, .slice qo lq cq]] w fun e w' => e = .returned (.int .i64 c) ∧ Below w.heap.size w w' := by
  obtain ⟨W, hT⟩ := RTwo2.mk' w na nb ao po bo qo la ca lp cp lb cb lq cq
  have hsz := hT.size
  have HX : Hid (RatAt W na ao la ca po lp cp a ∧ RatAt W nb bo lb cb qo lq cq b ∧ TabAt 0 Lib.deBruijn64tab W) := ⟨hx.later hT.below, hy.later hT.below, tab_later hT0 hT.below⟩
  have hla : la ≤ 10000 := (hx.len ha).1
  have hlp : lp ≤ 10000 := (hx.len ha).2
  have hlb : lb ≤ 10000 := (hy.len hb).1
  have hlq : lq ≤ 10000 := (hy.len hb).2
  have HC : Hid (cmpQ a b = c ∧ Sz a 10000 ∧ Sz b 10000) := ⟨hc, ha, hb⟩
  clear hx hy ha hb hc hT0
  go_enter Tryz.func30, Tryz.ntmps30
  go_wp2_with (first
    | (go_at_call 73; rw [← hT.eq]; refine (checkBoth_good na nb ao po bo qo la ca lp cp lb cb lq cq a b _ HX.out.1 HX.out.2.1 (by omega) (by omega) (by omega) (by omega) HX.out.2.2).mono ?_; rintro e w1 ⟨rfl, hb1⟩; obtain ⟨p0, p1, p2⟩ := hT.a.later hb1 (by omega); obtain ⟨q0, q1, q2⟩ := hT.b.later hb1 (by omega))
    | (go_at_call 74; refine (compare_rat na nb ao po bo qo la ca lp cp lb cb lq cq a b _ (HX.out.1.later hb1) (HX.out.2.1.later hb1) HC.out.2.1 HC.out.2.2 c HC.out.1).mono ?_; rintro e w2 ⟨rfl, hb2⟩))
  go_ret
  exact ⟨rfl, bnext hT.below (bnext hb1 hb2)⟩
set_option maxRecDepth 100000 in
set_option maxHeartbeats 4000000 in
theorem sign_rat (na : Bool) (ao po : Option Addr) (la ca lp cp : Nat) (a : Rat) (w : World) (hx : RatAt w na ao la ca po lp cp a) (hl : la ≤ 1073741824) (hl' : lp ≤ 1073741824) (hT0 : TabAt 0 Lib.deBruijn64tab w) (c : Int) (hc : cmpI a.num 0 = c) :
    Calls Tryz.prog 13 #[.agg #[.bool na, .slice ao la ca, .slice po lp cp]] w fun e w' => e = .returned (.int .i64 c) ∧ Below w.heap.size w w' := by
  obtain ⟨W, hT⟩ := ROne1.mk' w na ao po la ca lp cp
  have hsz := hT.size
  have HX : Hid (RatAt W na ao la ca po lp cp a ∧ TabAt 0 Lib.deBruijn64tab W) := ⟨hx.later hT.below, tab_later hT0 hT.below⟩
  have HC : Hid (cmpI a.num 0 = c) := hc
  clear hx hc hT0
  go_enter Tryz.func13, Tryz.ntmps13
  go_wp2_with (first
    | (go_at_call 10; rw [← hT.eq]; refine (rcheck_good na ao po la ca lp cp a _ HX.out.1 (by omega) (by omega) HX.out.2).mono ?_; rintro e w1 ⟨rfl, hb1⟩; obtain ⟨p0, p1, p2⟩ := hT.a.later hb1 (by omega))
    | (go_at_call 55; refine (bsign_any na ao la ca a.num _ (HX.out.1.num.later hb1) (by omega) c HC.out).mono ?_; rintro e w2 ⟨rfl, hb2⟩))
  go_ret
  exact ⟨rfl, bnext hT.below (bnext hb1 hb2)⟩
end Go.Proofs.YtiiefpnkpfliiaaGreatDoor
/-
  Variables that hold numbers: what a store leaves.
-/
namespace Go.Proofs.YtiiefpnkpfliiaaGreatDoor
open Go.RowKit
set_option linter.unusedVariables false
set_option linter.unusedSimpArgs false
theorem cell_far {w : World} {r j b o : Nat} {v : Value} (h : b ≠ r) : (w.setCell ⟨r, j, none⟩ v).cell? ⟨b, o, none⟩ = w.cell? ⟨b, o, none⟩ := by
  simp only [World.cell?, Below.heap_setCell w ⟨r, j, none⟩ v b h]
/-- two numbers, in whatever memory -/
def TwoRef (w w' : World) (e : Ending) (q r : Int) : Prop :=
  ∃ n1 ao1 l1 c1 n2 ao2 l2 c2, e = .returned (.tuple #[.agg #[.bool n1, .slice ao1 l1 c1], .agg #[.bool n2, .slice ao2 l2 c2]]) ∧ IntAt w' n1 ao1 l1 c1 q ∧ IntAt w' n2 ao2 l2 c2 r ∧ Below w.heap.size w w'
theorem floor_rest {a b q r : Int} (h : FloorOf a b q r) : FloorOf a b q (a - q * b) := by
  have e : a - q * b = r := by have := h.1; rw [Int.mul_comm] at this; omega
  rw [e]; exact h
theorem RowAt.boxed {w : World} {k : IntKind} {ao : Option Addr} {len cap r : Nat} {zs : List Int} {n : Bool} {so : Option Addr} {l c : Nat} (h : RowAt w k ao len cap zs) (hf : Boxed w r n so l c) (x y : Value) : RowAt ((w.setCell ⟨r, 0, none⟩ x).setCell ⟨r, 1, none⟩ y) k ao len cap zs := by
  refine ⟨h.hlen, h.hcap, h.hnil, ?_⟩
  rcases h.hat with h0 | ⟨b, off, h1, hlt, h2⟩
  · exact Or.inl h0
  · refine Or.inr ⟨b, off, h1, by simpa [World.setCell] using hlt, fun t ht => ?_⟩
    have hc := h2 t ht
    rw [setCell_ne, setCell_ne]
    · exact hc
    · rintro ⟨e1, e2⟩
      simp only at e1 e2
      rw [e1, e2, hf.1] at hc; cases hc
    · rintro ⟨e1, e2⟩
      simp only at e1 e2
      rw [e1, e2, hf.2] at hc; cases hc
theorem boxed_far {w : World} {r s : Nat} {n : Bool} {so : Option Addr} {l c : Nat} (h : Boxed w r n so l c) (hs : r ≠ s) (x y : Value) : Boxed ((w.setCell ⟨s, 0, none⟩ x).setCell ⟨s, 1, none⟩ y) r n so l c :=
  ⟨by rw [cell_far hs, cell_far hs]; exact h.1, by rw [cell_far hs, cell_far hs]; exact h.2⟩
theorem frozen_far {w : World} {r j b o : Nat} {v : Value} : (w.setCell ⟨r, j, none⟩ v).frozen? ⟨b, o, none⟩ = w.frozen? ⟨b, o, none⟩ := by simp [go_sem]
theorem fresh_far {w : World} {r s : Nat} (h : Fresh w r) (hs : r ≠ s) (x y : Value) : Fresh ((w.setCell ⟨s, 0, none⟩ x).setCell ⟨s, 1, none⟩ y) r :=
  ⟨fun j => by rw [frozen_far, frozen_far]; exact h.1 j, by rw [cell_far hs, cell_far hs]; exact h.2.1, by rw [cell_far hs, cell_far hs]; exact h.2.2⟩
theorem boxed_new {w : World} {r : Nat} {n m : Bool} {so tp : Option Addr} {l c l' c' : Nat} (h : Boxed w r n so l c) : Boxed ((w.setCell ⟨r, 0, none⟩ (.bool m)).setCell ⟨r, 1, none⟩ (.slice tp l' c')) r m tp l' c' :=
  ⟨by simp [go_sem, h.1, h.2], by simp [go_sem, h.1, h.2]⟩
end Go.Proofs.YtiiefpnkpfliiaaGreatDoor
/-
  Walks: whole parts; whole numbers as rationals; middles. (gen/rfloor.py)
-/
namespace Go.Proofs.YtiiefpnkpfliiaaGreatDoor
open Go.RowKit
set_option linter.unusedVariables false
set_option linter.unusedSimpArgs false
theorem floor_len (a : Rat) : (mag (a.num / (a.den : Int)).natAbs).length ≤ (mag a.num.natAbs).length + 2 := by
  have h : (a.num / (a.den : Int)).natAbs ≤ a.num.natAbs + 1 := by
    rw [Int.natAbs_ediv]
    have := Nat.div_le_self a.num.natAbs (a.den : Int).natAbs
    split <;> omega
  have h1 : (mag 1).length = 1 := by decide
  have h2 := mag_len_add a.num.natAbs 1
  exact Nat.le_trans (mag_len_mono h) (by omega)
set_option maxRecDepth 100000 in
set_option maxHeartbeats 4000000 in
theorem rclone_any (neg : Bool) (ao : Option Addr) (len cap : Nat) (v : Int) (w : World) (hx : IntAt w neg ao len cap v) (hl : len ≤ 1073741824) :
    Calls Tryz.prog 50 #[.agg #[.bool neg, .slice ao len cap]] w fun e w' => NewInt w w' e v := by
  obtain ⟨W, hT⟩ := One2.mk' w neg ao len cap
  have hsz := hT.size
  have HX : Hid (IntAt W neg ao len cap v) := hx.later hT.below
  have KW : Hid (∀ w' : World, Below W.heap.size W w' → w'.cell? ⟨w.heap.size, 0, none⟩ = some (.bool neg) ∧ w'.cell? ⟨w.heap.size, 1, none⟩ = some (.slice ao len cap)) := fun w' h => ⟨(h.cell (p := ⟨w.heap.size, 0, none⟩) (by show w.heap.size < _; omega)).trans hT.a.1, (h.cell (p := ⟨w.heap.size, 1, none⟩) (by show w.heap.size < _; omega)).trans hT.a.2⟩
  have KS : Hid (∀ X : World, Below W.heap.size W X → ∀ x y, (fun w' : World => w'.cell? ⟨w.heap.size, 0, none⟩ = some (.bool neg) ∧ w'.cell? ⟨w.heap.size, 1, none⟩ = some (.slice ao len cap)) ((X.setCell ⟨w.heap.size + 1, 0, none⟩ x).setCell ⟨w.heap.size + 1, 1, none⟩ y)) := fun X h x y => by
    obtain ⟨h1, h2⟩ := KW.out X h
    (try dsimp only)
    rw [cell_off (by omega), cell_off (by omega), cell_off (by omega), cell_off (by omega)]
    exact ⟨h1, h2⟩
  have HF : Hid (Fresh W (w.heap.size + 1) ∧ Below w.heap.size w W) := ⟨hT.r, hT.below⟩
  clear hx
  go_enter Tryz.func50, Tryz.ntmps50
  go_upto_region 1 with fail
  rw [← hT.eq]
  clear hT
  have hzU : W.heap.size ≤ W.drew.heap.size := Nat.le_refl _
  have S0 : Step8 0 := ⟨trivial⟩
  go_region_held3 (fun w' => (w'.cell? ⟨w.heap.size, 0, none⟩ = some (.bool neg) ∧ w'.cell? ⟨w.heap.size, 1, none⟩ = some (.slice ao len cap)))
    (with_reducible (first | exact KS.out _ hbF1 _ _ | exact KW.out _ (Below.refl _ _).drew | exact KW.out _ (by assumption) | (refine KW.out _ ?_; (repeat (first | refine below_alloc ?_ (Nat.le_refl _) | refine Below.drew ?_ | refine below_set ?_ (by omega))); (first | exact hbF1 | exact Below.refl _ _))))
    (first
      | (have _t := S0; go_at_call 58; refine with_held (S := fun w9 => Below W.heap.size W w9) (by show Below _ _ _; with_reducible ((repeat (first | refine below_alloc ?_ (Nat.le_refl _) | refine Below.drew ?_ | refine below_set ?_ (by omega))); (first | exact hbF1 | exact Below.refl _ _))) (fun hS => ?_); refine (cloneNat_any ao len cap v.natAbs _ (HX.out.row.later hS) hl).mono ?_; rintro e f1 ⟨o1, l1, c1, rfl, ho, hb⟩; have H1 : Hid (Own W.heap.size f1 .u64 59 o1 l1 c1 (mag v.natAbs) ∧ Below W.heap.size W f1) := ⟨ho.mono hS.size, bnext hS hb⟩; clear ho; obtain ⟨k5, k2, k3⟩ := HF.out.1.later (bnext hS hb) (by omega); have hbF1 : Below W.heap.size W f1 := bnext hS hb; have hzF1 := hbF1.size; clear hS hb S0; skip))
  all_goals go_wp2
  exact bodyPost_ret (v := .agg #[.bool neg, .slice o1 l1 c1]) (by simp [results, Tryz.results50, go_sem, k2, k3]) rfl
    ⟨_, _, _, _, rfl, HX.out.sg, (H1.out.1.store (by omega) _ _).mono (by omega), below_store (bnext HF.out.2 H1.out.2) (by omega) _ _⟩
/-- a rational handed in, two numbers to come -/
structure RI3 (w W : World) (na : Bool) (ao po : Option Addr) (la ca lp cp : Nat) : Prop where
  eq : W = ((w.alloc (.cells #[.bool na, .slice ao la ca, .slice po lp cp] 28)).alloc (.cells #[.bool false, .slice none 0 0] 26)).alloc (.cells #[.bool false, .slice none 0 0] 26)
  below : Below w.heap.size w W
  size : W.heap.size = w.heap.size + 3
  a : Boxed3 W w.heap.size na ao la ca po lp cp
  r : Fresh W (w.heap.size + 1)
  q : Fresh W (w.heap.size + 1 + 1)
theorem RI3.mk' (w : World) (na : Bool) (ao po : Option Addr) (la ca lp cp : Nat) : ∃ W, RI3 w W na ao po la ca lp cp :=
  ⟨_, rfl, (((Below.refl _ _).alloc (Nat.le_refl _) _).alloc (by simp) _).alloc (by simp; omega) _, by simp, ⟨by simp [go_sem], by simp [go_sem], by simp [go_sem]⟩, ⟨fun j => by simp [go_sem], by simp [go_sem], by simp [go_sem]⟩, ⟨fun j => by simp [go_sem], by simp [go_sem], by simp [go_sem]⟩⟩
/-- a rational handed in, a number to come -/
structure RI2 (w W : World) (na : Bool) (ao po : Option Addr) (la ca lp cp : Nat) : Prop where
  eq : W = (w.alloc (.cells #[.bool na, .slice ao la ca, .slice po lp cp] 28)).alloc (.cells #[.bool false, .slice none 0 0] 26)
  below : Below w.heap.size w W
  size : W.heap.size = w.heap.size + 2
  a : Boxed3 W w.heap.size na ao la ca po lp cp
  r : Fresh W (w.heap.size + 1)
theorem RI2.mk' (w : World) (na : Bool) (ao po : Option Addr) (la ca lp cp : Nat) : ∃ W, RI2 w W na ao po la ca lp cp :=
  ⟨_, rfl, ((Below.refl _ _).alloc (Nat.le_refl _) _).alloc (by simp) _, by simp, ⟨by simp [go_sem], by simp [go_sem], by simp [go_sem]⟩, ⟨fun j => by simp [go_sem], by simp [go_sem], by simp [go_sem]⟩⟩
set_option maxRecDepth 100000 in
set_option maxHeartbeats 4000000 in
theorem floor_rat (na : Bool) (ao po : Option Addr) (la ca lp cp : Nat) (a : Rat) (w : World) (hx : RatAt w na ao la ca po lp cp a) (hl : la ≤ 1073741824) (hl' : lp ≤ 1073741824) :
    Calls Tryz.prog 59 #[.agg #[.bool na, .slice ao la ca, .slice po lp cp]] w fun e w' => ∃ n o l c v', e = .returned (.tuple #[.agg #[.bool n, .slice o l c], v']) ∧ n = sgB (a.num / (a.den : Int)) ∧ Own w.heap.size w' .u64 59 o l c (mag (a.num / (a.den : Int)).natAbs) ∧ Below w.heap.size w w' := by
  obtain ⟨W, hT⟩ := RI3.mk' w na ao po la ca lp cp
  have hsz := hT.size
  have HX : Hid (RatAt W na ao la ca po lp cp a) := hx.later hT.below
  have hd : (a.den : Int) ≠ 0 := by have := a.den_pos; omega
  obtain ⟨p0, p1, p2⟩ := hT.a
  clear hx
  go_enter Tryz.func59, Tryz.ntmps59
  go_upto_region 2 with (go_at_call 102; rw [← hT.eq]; refine (bdivide_any na false ao po la ca lp cp a.num (a.den : Int) _ HX.out.num (row_int HX.out.den) (by omega) (by omega) hd).mono ?_; rintro e y ⟨vq, vr, hfl, n1, o1, l1, c1, n2, o2, l2, c2, rfl, hs1, ho1, hs2, ho2, hb⟩; have HA : Hid (n1 = sgB (a.num / (a.den : Int)) ∧ Own W.heap.size y .u64 59 o1 l1 c1 (mag (a.num / (a.den : Int)).natAbs) ∧ Below W.heap.size W y) := (by have hq := (hfl.pos (by have := a.den_pos; omega)).1; rw [← hq]; exact ⟨hs1, ho1, hb⟩); clear hs1 ho1 hs2 ho2 hfl; obtain ⟨g5, g3, g4⟩ := hT.r.later hb (by omega); obtain ⟨k5, k3, k4⟩ := hT.q.later hb (by omega); clear hb)
  obtain ⟨Q, hQ⟩ : ∃ Q, Q = ((((y.setCell ⟨w.heap.size + 1, 0, none⟩ (.bool n1)).setCell ⟨w.heap.size + 1, 1, none⟩ (.slice o1 l1 c1)).setCell ⟨w.heap.size + 1 + 1, 0, none⟩ (.bool n2)).setCell ⟨w.heap.size + 1 + 1, 1, none⟩ (.slice o2 l2 c2)) := ⟨_, rfl⟩
  have HQ : Hid (Own W.heap.size Q .u64 59 o1 l1 c1 (mag (a.num / (a.den : Int)).natAbs) ∧ Below w.heap.size w Q ∧ Boxed Q (w.heap.size + 1) n1 o1 l1 c1 ∧ Boxed Q (w.heap.size + 1 + 1) n2 o2 l2 c2 ∧ (∀ j, Q.frozen? ⟨w.heap.size + 1, j, none⟩ = false) ∧ (∀ j, Q.frozen? ⟨w.heap.size + 1 + 1, j, none⟩ = false)) := by
    rw [hQ]
    refine ⟨(HA.out.2.1.store (by omega) _ _).store (by omega) _ _, below_store (below_store (bnext hT.below HA.out.2.2) (by omega) _ _) (by omega) _ _, boxed_far (boxed_new ⟨g3, g4⟩) (by omega) _ _, boxed_new (boxed_far ⟨k3, k4⟩ (by omega) _ _), fun j => by rw [frozen_off, frozen_off, frozen_off, frozen_off]; exact g5 j, fun j => by rw [frozen_off, frozen_off, frozen_off, frozen_off]; exact k5 j⟩
  rw [← hQ]
  clear hQ g5 g3 g4 k5 k3 k4 p0 p1 p2
  obtain ⟨g3, g4⟩ := HQ.out.2.2.1
  obtain ⟨k3, k4⟩ := HQ.out.2.2.2.1
  have g5 := HQ.out.2.2.2.2.1
  have k5 := HQ.out.2.2.2.2.2
  go_region
  all_goals go_wp2
  all_goals exact bodyPost_ret (v := .tuple #[.agg #[.bool n1, .slice o1 l1 c1], .agg #[.bool n2, .slice o2 l2 c2]]) (by simp [results, Tryz.results59, go_sem, g3, g4, k3, k4]) rfl ⟨_, _, _, _, _, rfl, HA.out.1, ((HQ.out.1.store (by omega) _ _).store (by omega) _ _).mono (by omega), (below_store (below_store HQ.out.2.1 (by omega) _ _) (by omega) _ _).drew⟩
set_option maxRecDepth 100000 in
set_option maxHeartbeats 4000000 in
theorem rfloor_any (na : Bool) (ao po : Option Addr) (la ca lp cp : Nat) (a : Rat) (w : World) (hx : RatAt w na ao la ca po lp cp a) (hl : la ≤ 1073741824) (hl' : lp ≤ 1073741824) (hT0 : TabAt 0 Lib.deBruijn64tab w) :
    Calls Tryz.prog 17 #[.agg #[.bool na, .slice ao la ca, .slice po lp cp]] w fun e w' => NewInt w w' e (a.num / (a.den : Int)) := by
  obtain ⟨W, hT⟩ := RI2.mk' w na ao po la ca lp cp
  have hsz := hT.size
  have HX : Hid (RatAt W na ao la ca po lp cp a ∧ TabAt 0 Lib.deBruijn64tab W) := ⟨hx.later hT.below, tab_later hT0 hT.below⟩
  clear hx hT0
  go_enter Tryz.func17, Tryz.ntmps17
  go_wp2_with (first
    | (go_at_call 10; rw [← hT.eq]; refine (rcheck_good na ao po la ca lp cp a _ HX.out.1 (by omega) (by omega) HX.out.2).mono ?_; rintro e w1 ⟨rfl, hb1⟩; obtain ⟨p0, p1, p2⟩ := hT.a.later hb1 (by omega))
    | (go_at_call 59; refine (floor_rat na ao po la ca lp cp a _ (HX.out.1.later hb1) (by omega) (by omega)).mono ?_; rintro e w2 ⟨n1, o1, l1, c1, v1, rfl, hs1, ho1, hb2⟩; have HA : Hid (n1 = sgB (a.num / (a.den : Int)) ∧ Own W.heap.size w2 .u64 59 o1 l1 c1 (mag (a.num / (a.den : Int)).natAbs) ∧ Below W.heap.size W w2) := ⟨hs1, ho1.mono hb1.size, bnext hb1 hb2⟩; clear hs1 ho1 hb2 p0 p1 p2; obtain ⟨g5, g3, g4⟩ := hT.r.later HA.out.2.2 (by omega)))
  have hB : Boxed ((((w2.setCell ⟨w.heap.size + 1, 0, none⟩ (.bool n1)).setCell ⟨w.heap.size + 1, 1, none⟩ (.slice o1 l1 c1)).setCell ⟨w.heap.size + 1, 0, none⟩ (.bool n1)).setCell ⟨w.heap.size + 1, 1, none⟩ (.slice o1 l1 c1)) (w.heap.size + 1) n1 o1 l1 c1 := boxed_new (boxed_new ⟨g3, g4⟩)
  exact bodyPost_ret (v := .agg #[.bool n1, .slice o1 l1 c1]) (by simp [results, Tryz.results17, go_sem, hB.1, hB.2]) rfl
    ⟨_, _, _, _, rfl, HA.out.1, ((HA.out.2.1.store (by omega) _ _).store (by omega) _ _).mono (by omega), below_store (below_store (bnext hT.below HA.out.2.2) (by omega) _ _) (by omega) _ _⟩
theorem nw_word {w : World} {n : Nat} {z : Int} (h : mag n = [z]) : Own w.heap.size (w.alloc (.cells #[.int .u64 z] 59)) .u64 59 (some ⟨w.heap.size, 0, none⟩) 1 1 (mag n) := by
  rw [h]; exact Own.whole (Blk.new w .u64 59 [z]) (Nat.le_refl _) rfl
theorem parted_new {w : World} {B : Nat} {o : Option Addr} {l c : Nat} {zs : List Int} (h : Own B w .u64 59 o l c zs) : Parted o (some ⟨w.heap.size, 0, none⟩) := fun p q hp hq e => by
  cases hq
  rcases h with ⟨h1, _⟩ | ⟨g, off, cur, h1, h2, h3, _⟩
  · rw [h1] at hp; cases hp
  · rw [h1] at hp; cases hp
    have := heap_lt h3
    exact absurd e (by show g ≠ w.heap.size; omega)
set_option maxRecDepth 100000 in
set_option maxHeartbeats 4000000 in
theorem rfrom2_any (neg : Bool) (ao : Option Addr) (len cap : Nat) (v : Int) (w : World) (hx : IntAt w neg ao len cap v) (hl : len ≤ 1073741824) :
    Calls Tryz.prog 25 #[.agg #[.bool neg, .slice ao len cap]] w fun e w' => NewRat w w' e (v : Rat) := by
  obtain ⟨W, hT⟩ := IR2.mk' w neg ao len cap
  have hsz := hT.size
  have HX : Hid (IntAt W neg ao len cap v) := hx.later hT.below
  have HM : Hid ((if mayB neg (mag v.natAbs) then 0 else 10 : Int) = 0) := hx.may
  clear hx
  go_enter Tryz.func25, Tryz.ntmps25
  go_wp2_with (first
    | (go_at_call 51; rw [← hT.eq]; refine (check_at neg ao len cap _ _ HX.out.row (by omega) 0 HM.out).mono ?_; rintro e w1 ⟨rfl, hb1⟩; obtain ⟨p0, p1⟩ := hT.a.later hb1 (by omega))
    | (go_at_call 50; refine (rclone_any neg ao len cap v _ (HX.out.later hb1) (by omega)).mono ?_; rintro e w2 ⟨n1, o1, l1, c1, rfl, hs1, ho1, hb2⟩; have hA : Below w2.heap.size w2 (w2.alloc (.cells #[.int .u64 1] 59)) := (Below.refl _ _).alloc (Nat.le_refl _) _; have HA : Hid (n1 = sgB v ∧ Own W.heap.size (w2.alloc (.cells #[.int .u64 1] 59)) .u64 59 o1 l1 c1 (mag v.natAbs) ∧ Below W.heap.size W (w2.alloc (.cells #[.int .u64 1] 59)) ∧ Own W.heap.size (w2.alloc (.cells #[.int .u64 1] 59)) .u64 59 (some ⟨w2.heap.size, 0, none⟩) 1 1 (mag 1) ∧ Parted o1 (some ⟨w2.heap.size, 0, none⟩)) := ⟨hs1, (ho1.later hA).mono hb1.size, bnext (bnext hb1 hb2) hA, (nw_word one_word).mono (bnext hb1 hb2).size, parted_new ho1⟩; clear hs1 ho1 p0 p1; have hz2 := (bnext hb1 hb2).size; clear hb2 hA; obtain ⟨g5, g2, g3, g4⟩ := hT.r.later HA.out.2.2.1 (by omega)))
  exact bodyPost_ret (v := .agg #[.bool n1, .slice o1 l1 c1, .slice (some ⟨w2.heap.size, 0, none⟩) 1 1]) (by simp [results, Tryz.results25, go_sem, g2, g3, g4]) rfl
    ⟨_, _, _, _, _, _, _, rfl, HA.out.1, (HA.out.2.1.store3 (by omega) _ _ _).mono (by omega), (HA.out.2.2.2.1.store3 (by omega) _ _ _).mono (by omega), HA.out.2.2.2.2, below_store3 (bnext hT.below HA.out.2.2.1) (by omega) _ _ _⟩
def half2 : Rat := ⟨1, 2, by decide, by decide⟩
theorem two_word : mag 2 = [2] := by decide
theorem sz_half2 : Sz half2 1 := by unfold Sz; decide
set_option maxRecDepth 100000 in
set_option maxHeartbeats 4000000 in
theorem mid_rat (na nb : Bool) (ao po bo qo : Option Addr) (la ca lp cp lb cb lq cq : Nat) (a b : Rat) (w : World) (hx : RatAt w na ao la ca po lp cp a) (hy : RatAt w nb bo lb cb qo lq cq b) (ha : Sz a 200) (hb : Sz b 200) (hT0 : TabAt 0 Lib.deBruijn64tab w) :
    Calls Tryz.prog 31 #[.agg #[.bool na, .slice ao la ca, .slice po lp cp], .agg #[.bool nb, .slice bo lb cb, .slice qo lq cq]] w fun e w' => NewRat w w' e ((a + b) * half2) := by
  obtain ⟨W, hT⟩ := RTwo3.mk' w na nb ao po bo qo la ca lp cp lb cb lq cq
  have hsz := hT.size
  have HX : Hid (RatAt W na ao la ca po lp cp a ∧ RatAt W nb bo lb cb qo lq cq b ∧ TabAt 0 Lib.deBruijn64tab W) := ⟨hx.later hT.below, hy.later hT.below, tab_later hT0 hT.below⟩
  have hla : la ≤ 200 := (hx.len ha).1
  have hlp : lp ≤ 200 := (hx.len ha).2
  have hlb : lb ≤ 200 := (hy.len hb).1
  have hlq : lq ≤ 200 := (hy.len hb).2
  have HS : Hid (Sz a 1000 ∧ Sz b 1000 ∧ Sz (a + b) 1000) := ⟨ha.mono (by decide), hb.mono (by decide), (ha.add hb).mono (by decide)⟩
  clear hx hy hT0 ha hb
  go_enter Tryz.func31, Tryz.ntmps31
  go_wp2_with (first
    | (go_at_call 73; rw [← hT.eq]; refine (checkBoth_good na nb ao po bo qo la ca lp cp lb cb lq cq a b _ HX.out.1 HX.out.2.1 (by omega) (by omega) (by omega) (by omega) HX.out.2.2).mono ?_; rintro e w1 ⟨rfl, hb1⟩; obtain ⟨p0, p1, p2⟩ := hT.a.later hb1 (by omega); obtain ⟨q0, q1, q2⟩ := hT.b.later hb1 (by omega))
    | (go_at_call 76; refine (sum_rat na nb ao po bo qo la ca lp cp lb cb lq cq a b _ (HX.out.1.later hb1) (HX.out.2.1.later hb1) HS.out.1 HS.out.2.1 (tab_later HX.out.2.2 hb1)).mono ?_; rintro e w2 ⟨n2, o2, l2, c2, o3, l3, c3, rfl, hs, ho, hp, _, hb⟩; have H2 : Hid (RatAt w2 n2 o2 l2 c2 o3 l3 c3 (a + b) ∧ Below W.heap.size W w2) := ⟨⟨ho.int hs, hp.row⟩, bnext hb1 hb⟩; clear hs ho hp hb p0 p1 p2 q0 q1 q2)
    | (go_at_call 77; refine (from_any 1 _ (by decide) (by decide)).mono ?_; rintro e w3 ⟨n4, o4, l4, c4, rfl, hs, ho, hb⟩; have H3 : Hid (RatAt (w3.alloc (.cells #[.int .u64 2] 59)) n2 o2 l2 c2 o3 l3 c3 (a + b) ∧ RatAt (w3.alloc (.cells #[.int .u64 2] 59)) n4 o4 l4 c4 (some ⟨w3.heap.size, 0, none⟩) 1 1 half2 ∧ Below W.heap.size W (w3.alloc (.cells #[.int .u64 2] 59))) := (by have hA : Below w3.heap.size w3 (w3.alloc (.cells #[.int .u64 2] 59)) := (Below.refl _ _).alloc (Nat.le_refl _) _; exact ⟨(H2.out.1.later hb).later hA, ⟨(ho.int hs).later hA, (nw_word two_word).row⟩, bnext (bnext H2.out.2 hb) hA⟩); clear hs ho hb)
    | (go_at_call 75; refine (product_rat n2 n4 o2 o3 o4 (some ⟨w3.heap.size, 0, none⟩) l2 c2 l3 c3 l4 c4 1 1 (a + b) half2 _ H3.out.1 H3.out.2.1 HS.out.2.2 (sz_half2.mono (by decide)) (tab_later HX.out.2.2 H3.out.2.2)).mono ?_; rintro e w5 ⟨n5, o5, l5, c5, p5, m5, k5, rfl, hs, ho, hp, hpt, hb⟩; have HA : Hid (n5 = sgB ((a + b) * half2).num ∧ Own W.heap.size w5 .u64 59 o5 l5 c5 (mag ((a + b) * half2).num.natAbs) ∧ Own W.heap.size w5 .u64 59 p5 m5 k5 (mag ((a + b) * half2).den) ∧ Parted o5 p5 ∧ Below W.heap.size W w5) := ⟨hs, ho.mono H3.out.2.2.size, hp.mono H3.out.2.2.size, hpt, bnext H3.out.2.2 hb⟩; clear hs ho hp hpt hb; obtain ⟨g5, g2, g3, g4⟩ := hT.r.later HA.out.2.2.2.2 (by omega)))
  exact bodyPost_ret (v := .agg #[.bool n5, .slice o5 l5 c5, .slice p5 m5 k5]) (by simp [results, Tryz.results31, go_sem, g2, g3, g4]) rfl
    ⟨_, _, _, _, _, _, _, rfl, HA.out.1, (HA.out.2.1.store3 (by omega) _ _ _).mono (by omega), (HA.out.2.2.1.store3 (by omega) _ _ _).mono (by omega), HA.out.2.2.2.1, below_store3 (bnext hT.below HA.out.2.2.2.2) (by omega) _ _ _⟩
end Go.Proofs.YtiiefpnkpfliiaaGreatDoor
