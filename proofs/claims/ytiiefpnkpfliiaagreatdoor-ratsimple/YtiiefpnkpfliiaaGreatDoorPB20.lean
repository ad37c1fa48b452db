/-
  Walks: how rationals stand to each other; sign, whole part, middle. (gen/rcmp.py)
-/
import Derived.Test.YtiiefpnkpfliiaaGreatDoorPB11
import Derived.Test.YtiiefpnkpfliiaaGreatDoorPB15
import Derived.Test.YtiiefpnkpfliiaaGreatDoorPB16
import Derived.Test.YtiiefpnkpfliiaaGreatDoorPB19
namespace Go.Proofs.YtiiefpnkpfliiaaGreatDoor
open Go.RowKit
set_option linter.unusedVariables false
set_option linter.unusedSimpArgs false
theorem cmp_parts {n m : Int} {ad bd : Nat} (ha : 0 < ad) (hb : 0 < bd) (h : cmpI n 0 ≠ cmpI m 0 ∨ cmpI n 0 = 0) : cmpI (cmpI n 0) (cmpI m 0) = cmpI (n * (bd : Int)) (m * (ad : Int)) := by
  have p1 : ∀ {x : Int} {k : Nat}, 0 < k → 0 < x → 0 < x * (k : Int) := fun hk hx => Int.mul_pos hx (by omega)
  have p2 : ∀ {x : Int} {k : Nat}, 0 < k → x < 0 → x * (k : Int) < 0 := fun hk hx => Int.mul_neg_of_neg_of_pos hx (by omega)
  rcases Int.lt_trichotomy n 0 with h1 | h1 | h1 <;> rcases Int.lt_trichotomy m 0 with h2 | h2 | h2
  · exfalso; revert h; unfold cmpI; simp [h1, h2]
  · subst h2; have := p2 hb h1; unfold cmpI; simp [h1, this]
  · have := p2 hb h1; have := p1 ha h2; unfold cmpI; rw [if_pos (show n * (bd : Int) < m * (ad : Int) by omega), if_pos h1, if_neg (show ¬ m < 0 by omega), if_pos h2]; decide
  · subst h1; have := p2 ha h2; unfold cmpI; rw [if_pos h2, Int.zero_mul, if_neg (show ¬ 0 < m * (ad : Int) by omega), if_pos this]; decide
  · subst h1; subst h2; unfold cmpI; simp
  · subst h1; have := p1 ha h2; unfold cmpI; rw [Int.zero_mul, if_pos this, if_neg (show ¬ m < 0 by omega), if_pos h2]; decide
  · have := p1 hb h1; have := p2 ha h2; unfold cmpI; rw [if_neg (show ¬ n * (bd : Int) < m * (ad : Int) by omega), if_pos (show m * (ad : Int) < n * (bd : Int) by omega), if_neg (show ¬ n < 0 by omega), if_pos h1, if_pos h2]; decide
  · subst h2; have := p1 hb h1; unfold cmpI; rw [Int.zero_mul, if_neg (show ¬ n * (bd : Int) < 0 by omega), if_pos this, if_neg (show ¬ n < 0 by omega), if_pos h1]; decide
  · exfalso; revert h; unfold cmpI; rw [if_neg (show ¬ n < 0 by omega), if_pos h1, if_neg (show ¬ m < 0 by omega), if_pos h2]; decide
/-- how two rationals stand to each other -/
def cmpQ (a b : Rat) : Int := cmpI (a.num * (b.den : Int)) (b.num * (a.den : Int))
theorem cmpI_vals (n m : Int) : cmpI n m = -1 ∨ cmpI n m = 0 ∨ cmpI n m = 1 := by
  unfold cmpI
  split
  · exact Or.inl rfl
  · split
    · exact Or.inr (Or.inr rfl)
    · exact Or.inr (Or.inl rfl)
theorem isNaN_any (n : Int) (w : World) : Calls Tryz.prog 133 #[.int .i64 n] w fun e w' => e = .returned (.bool false) ∧ w' = w := by
  go_enter Tryz.func133, Tryz.ntmps133
  go_wp2
  go_ret
  exact ⟨by simp, rfl⟩
theorem compareInt_any (s t : Int) (w : World) (c : Int) (hc : cmpI s t = c) : Calls Tryz.prog 106 #[.int .i64 s, .int .i64 t] w fun e w' => e = .returned (.int .i64 c) ∧ w' = w := by
  rcases Int.lt_trichotomy s t with h | h | h
  · obtain rfl : c = -1 := by rw [← hc]; unfold cmpI; rw [if_pos h]
    clear hc
    go_enter Tryz.func106, Tryz.ntmps106
    go_wp2_with (go_at_call 133; refine (isNaN_any _ _).mono ?_; rintro e x ⟨rfl, hx⟩; replace hx := hx.symm; subst hx)
    go_ret
    exact ⟨rfl, rfl⟩
  · subst h
    obtain rfl : c = 0 := by rw [← hc]; unfold cmpI; rw [if_neg (by omega), if_neg (by omega)]
    clear hc
    go_enter Tryz.func106, Tryz.ntmps106
    go_wp2_with (go_at_call 133; refine (isNaN_any _ _).mono ?_; rintro e x ⟨rfl, hx⟩; replace hx := hx.symm; subst hx)
    go_ret
    exact ⟨rfl, rfl⟩
  · have h1 : ¬ s < t := by omega
    obtain rfl : c = 1 := by rw [← hc]; unfold cmpI; rw [if_neg h1, if_pos h]
    clear hc
    go_enter Tryz.func106, Tryz.ntmps106
    go_wp2_with (go_at_call 133; refine (isNaN_any _ _).mono ?_; rintro e x ⟨rfl, hx⟩; replace hx := hx.symm; subst hx)
    go_ret
    exact ⟨rfl, rfl⟩
set_option maxRecDepth 100000 in
set_option maxHeartbeats 4000000 in
theorem compare_rat (na nb : Bool) (ao po bo qo : Option Addr) (la ca lp cp lb cb lq cq : Nat) (a b : Rat) (w : World) (hx : RatAt w na ao la ca po lp cp a) (hy : RatAt w nb bo lb cb qo lq cq b) (ha : Sz a 10000) (hb : Sz b 10000) (c : Int) (hc : cmpQ a b = c) :
    Calls Tryz.prog 74 #[.agg #[.bool na, .slice ao la ca, .slice po lp cp], .agg #[.bool nb, .slice bo lb cb, .slice qo lq cq]] w fun e w' => e = .returned (.int .i64 c) ∧ Below w.heap.size w w' := by
  obtain ⟨W, hT⟩ := RTwo2.mk' w na nb ao po bo qo la ca lp cp lb cb lq cq
  have hsz := hT.size
  have HX : Hid (RatAt W na ao la ca po lp cp a ∧ RatAt W nb bo lb cb qo lq cq b ∧ Below w.heap.size w W) := ⟨hx.later hT.below, hy.later hT.below, hT.below⟩
  have hla : la ≤ 10000 := (hx.len ha).1
  have hlp : lp ≤ 10000 := (hx.len ha).2
  have hlb : lb ≤ 10000 := (hy.len hb).1
  have hlq : lq ≤ 10000 := (hy.len hb).2
  have KW : Hid (∀ w' : World, Below W.heap.size W w' → w'.cell? ⟨w.heap.size, 0, none⟩ = some (.bool na) ∧ w'.cell? ⟨w.heap.size, 1, none⟩ = some (.slice ao la ca) ∧ w'.cell? ⟨w.heap.size, 2, none⟩ = some (.slice po lp cp) ∧ w'.cell? ⟨w.heap.size + 1, 0, none⟩ = some (.bool nb) ∧ w'.cell? ⟨w.heap.size + 1, 1, none⟩ = some (.slice bo lb cb) ∧ w'.cell? ⟨w.heap.size + 1, 2, none⟩ = some (.slice qo lq cq)) := fun w' h => ⟨(h.cell (p := ⟨w.heap.size, 0, none⟩) (by show w.heap.size < _; omega)).trans hT.a.1, (h.cell (p := ⟨w.heap.size, 1, none⟩) (by show w.heap.size < _; omega)).trans hT.a.2.1, (h.cell (p := ⟨w.heap.size, 2, none⟩) (by show w.heap.size < _; omega)).trans hT.a.2.2, (h.cell (p := ⟨w.heap.size + 1, 0, none⟩) (by show w.heap.size + 1 < _; omega)).trans hT.b.1, (h.cell (p := ⟨w.heap.size + 1, 1, none⟩) (by show w.heap.size + 1 < _; omega)).trans hT.b.2.1, (h.cell (p := ⟨w.heap.size + 1, 2, none⟩) (by show w.heap.size + 1 < _; omega)).trans hT.b.2.2⟩
  obtain ⟨s, hs⟩ : ∃ s, cmpI a.num 0 = s := ⟨_, rfl⟩
  obtain ⟨t, ht⟩ : ∃ t, cmpI b.num 0 = t := ⟨_, rfl⟩
  have hs3 : s = -1 ∨ s = 0 ∨ s = 1 := hs ▸ cmpI_vals a.num 0
  have ht3 : t = -1 ∨ t = 0 ∨ t = 1 := ht ▸ cmpI_vals b.num 0
  have HC : Hid (cmpI a.num 0 = s ∧ cmpI b.num 0 = t ∧ cmpI (a.num * (b.den : Int)) (b.num * (a.den : Int)) = c) := ⟨hs, ht, hc⟩
  have HL : Hid ((mag (a.num * (b.den : Int)).natAbs).length ≤ 30000 ∧ (mag (b.num * (a.den : Int)).natAbs).length ≤ 30000) := by
    have h2 := mul_len a.num (b.den : Int)
    have h3 := mul_len b.num (a.den : Int)
    rw [Int.natAbs_natCast] at h2 h3
    have := ha.1; have := ha.2; have := hb.1; have := hb.2
    refine ⟨?_, ?_⟩ <;> omega
  clear hx hy ha hb hs ht hc
  go_enter Tryz.func74, Tryz.ntmps74
  go_upto_region 1 with fail
  rw [← hT.eq]
  clear hT
  have hzU : W.heap.size ≤ W.drew.heap.size := Nat.le_refl _
  have S0 : Step8 0 := ⟨trivial⟩
  go_region_held3 (fun w' => (w'.cell? ⟨w.heap.size, 0, none⟩ = some (.bool na) ∧ w'.cell? ⟨w.heap.size, 1, none⟩ = some (.slice ao la ca) ∧ w'.cell? ⟨w.heap.size, 2, none⟩ = some (.slice po lp cp) ∧ w'.cell? ⟨w.heap.size + 1, 0, none⟩ = some (.bool nb) ∧ w'.cell? ⟨w.heap.size + 1, 1, none⟩ = some (.slice bo lb cb) ∧ w'.cell? ⟨w.heap.size + 1, 2, none⟩ = some (.slice qo lq cq)))
    (with_reducible (first | exact KW.out _ (Below.refl _ _).drew | exact KW.out _ (by assumption) | (refine KW.out _ ?_; (repeat (first | refine below_alloc ?_ (Nat.le_refl _) | refine Below.drew ?_ | refine below_set ?_ (by omega))); (first | exact hbF2 | exact hbF1 | exact Below.refl _ _))))
    (first
      | (have _t := S0; go_at_call 55; refine with_held (S := fun w9 => Below W.heap.size W w9) (by show Below _ _ _; with_reducible ((repeat (first | refine below_alloc ?_ (Nat.le_refl _) | refine Below.drew ?_ | refine below_set ?_ (by omega))); (first | exact hbF2 | exact hbF1 | exact Below.refl _ _))) (fun hS => ?_); refine (bsign_any na ao la ca a.num _ (HX.out.1.num.later hS) (by omega) s HC.out.1).mono ?_; rintro e f1 ⟨rfl, hb⟩; skip; have hbF1 : Below W.heap.size W f1 := bnext hS hb; have hzF1 := hbF1.size; clear hS hb S0; have S1 : Step8 1 := ⟨trivial⟩)
      | (have _t := S1; go_at_call 55; refine with_held (S := fun w9 => Below W.heap.size W w9) (by show Below _ _ _; with_reducible ((repeat (first | refine below_alloc ?_ (Nat.le_refl _) | refine Below.drew ?_ | refine below_set ?_ (by omega))); (first | exact hbF2 | exact hbF1 | exact Below.refl _ _))) (fun hS => ?_); refine with_held (S := fun w9 => Below f1.heap.size f1 w9) (by show Below _ _ _; with_reducible ((repeat (refine below_alloc ?_ (Nat.le_refl _))); exact Below.refl _ _)) (fun hS2 => ?_); refine (bsign_any nb bo lb cb b.num _ (HX.out.2.1.num.later hS) (by omega) t HC.out.2.1).mono ?_; rintro e f2 ⟨rfl, hb⟩; skip; have hbF2 : Below W.heap.size W f2 := bnext hS hb; have hzF2 := hbF2.size; clear hS hb S1; clear hS2; skip))
  obtain ⟨U, hU⟩ : ∃ U, U = f2 := ⟨_, rfl⟩
  subst hU
  have HU : Hid (RatAt U na ao la ca po lp cp a ∧ RatAt U nb bo lb cb qo lq cq b ∧ Below w.heap.size w U) := ⟨HX.out.1.later hbF2, HX.out.2.1.later hbF2, bnext HX.out.2.2 hbF2⟩
  have KU : Hid (∀ w' : World, Below U.heap.size U w' → w'.cell? ⟨w.heap.size, 0, none⟩ = some (.bool na) ∧ w'.cell? ⟨w.heap.size, 1, none⟩ = some (.slice ao la ca) ∧ w'.cell? ⟨w.heap.size, 2, none⟩ = some (.slice po lp cp) ∧ w'.cell? ⟨w.heap.size + 1, 0, none⟩ = some (.bool nb) ∧ w'.cell? ⟨w.heap.size + 1, 1, none⟩ = some (.slice bo lb cb) ∧ w'.cell? ⟨w.heap.size + 1, 2, none⟩ = some (.slice qo lq cq)) := fun w' h => KW.out w' (bnext hbF2 h)
  clear HX hbF2 hzF2 hbF1 hzF1 KW
  by_cases hq : s ≠ t ∨ s = 0
  · as_aux_lemma =>
    have HR : Hid (cmpI s t = c) := by
      have h1 := cmp_parts (n := a.num) (m := b.num) (ad := a.den) (bd := b.den) a.den_pos b.den_pos (by rw [HC.out.1, HC.out.2.1]; exact hq)
      rw [HC.out.1, HC.out.2.1, HC.out.2.2] at h1; exact h1
    clear HC
    rcases hs3 with rfl | rfl | rfl <;> rcases ht3 with rfl | rfl | rfl
    all_goals first
      | (exfalso; revert hq; decide)
      | (clear hq; go_wp2_with (go_at_call 106; refine (compareInt_any _ _ _ c HR.out).mono ?_; rintro e x ⟨rfl, hx⟩; replace hx := hx.symm; subst hx); go_ret; exact ⟨rfl, HU.out.2.2⟩)
  · as_aux_lemma =>
    obtain ⟨hst, hs0⟩ : s = t ∧ s ≠ 0 := ⟨Decidable.byContradiction fun e => hq (Or.inl e), fun e => hq (Or.inr e)⟩
    subst hst
    have hs0' : (s == 0) = false := by simpa using hs0
    clear hq hs3 ht3 hs0
    go_upto_region 4 with fail
    have hzU : U.heap.size ≤ U.drew.heap.size := Nat.le_refl _
    have S0 : Step8 0 := ⟨trivial⟩
    go_region_held3 (fun w' => (w'.cell? ⟨w.heap.size, 0, none⟩ = some (.bool na) ∧ w'.cell? ⟨w.heap.size, 1, none⟩ = some (.slice ao la ca) ∧ w'.cell? ⟨w.heap.size, 2, none⟩ = some (.slice po lp cp) ∧ w'.cell? ⟨w.heap.size + 1, 0, none⟩ = some (.bool nb) ∧ w'.cell? ⟨w.heap.size + 1, 1, none⟩ = some (.slice bo lb cb) ∧ w'.cell? ⟨w.heap.size + 1, 2, none⟩ = some (.slice qo lq cq)))
      (with_reducible (first | exact KU.out _ (Below.refl _ _).drew | exact KU.out _ (by assumption) | (refine KU.out _ ?_; (repeat (first | refine below_alloc ?_ (Nat.le_refl _) | refine Below.drew ?_ | refine below_set ?_ (by omega))); (first | exact hbF3 | exact hbF2 | exact hbF1 | exact Below.refl _ _))))
      (first
        | (have _t := S0; go_at_call 108; refine with_held (S := fun w9 => Below U.heap.size U w9) (by show Below _ _ _; with_reducible ((repeat (first | refine below_alloc ?_ (Nat.le_refl _) | refine Below.drew ?_ | refine below_set ?_ (by omega))); (first | exact hbF3 | exact hbF2 | exact hbF1 | exact Below.refl _ _))) (fun hS => ?_); refine (timesNat_any na ao qo la ca lq cq a.num b.den _ (HU.out.1.num.later hS) (HU.out.2.1.den.later hS) (by omega) (by omega)).mono ?_; rintro e f1 ⟨n3, o3, l3, c3, rfl, hs, ho3, hb⟩; have H1 : Hid (IntAt f1 n3 o3 l3 c3 (a.num * (b.den : Int))) := ho3.int hs; have hl3 : l3 ≤ 30000 := (by rw [ho3.row.hlen]; exact HL.out.1); clear hs ho3; have hbF1 : Below U.heap.size U f1 := bnext hS hb; have hzF1 := hbF1.size; clear hS hb S0; have S1 : Step8 1 := ⟨trivial⟩)
        | (have _t := S1; go_at_call 108; refine with_held (S := fun w9 => Below U.heap.size U w9) (by show Below _ _ _; with_reducible ((repeat (first | refine below_alloc ?_ (Nat.le_refl _) | refine Below.drew ?_ | refine below_set ?_ (by omega))); (first | exact hbF3 | exact hbF2 | exact hbF1 | exact Below.refl _ _))) (fun hS => ?_); refine with_held (S := fun w9 => Below f1.heap.size f1 w9) (by show Below _ _ _; with_reducible ((repeat (refine below_alloc ?_ (Nat.le_refl _))); exact Below.refl _ _)) (fun hS2 => ?_); refine (timesNat_any nb bo po lb cb lp cp b.num a.den _ (HU.out.2.1.num.later hS) (HU.out.1.den.later hS) (by omega) (by omega)).mono ?_; rintro e f2 ⟨n4, o4, l4, c4, rfl, hs, ho4, hb⟩; have H2 : Hid (IntAt f2 n3 o3 l3 c3 (a.num * (b.den : Int)) ∧ IntAt f2 n4 o4 l4 c4 (b.num * (a.den : Int))) := ⟨H1.out.later (bnext hS2 hb), ho4.int hs⟩; have hl4 : l4 ≤ 30000 := (by rw [ho4.row.hlen]; exact HL.out.2); clear hs ho4; have hbF2 : Below U.heap.size U f2 := bnext hS hb; have hzF2 := hbF2.size; clear hS hb S1; clear hS2; have S2 : Step8 2 := ⟨trivial⟩)
        | (have _t := S2; go_at_call 107; refine with_held (S := fun w9 => Below U.heap.size U w9) (by show Below _ _ _; with_reducible ((repeat (first | refine below_alloc ?_ (Nat.le_refl _) | refine Below.drew ?_ | refine below_set ?_ (by omega))); (first | exact hbF3 | exact hbF2 | exact hbF1 | exact Below.refl _ _))) (fun hS => ?_); refine with_held (S := fun w9 => Below f2.heap.size f2 w9) (by show Below _ _ _; with_reducible ((repeat (refine below_alloc ?_ (Nat.le_refl _))); exact Below.refl _ _)) (fun hS2 => ?_); refine (bcmp_any n3 n4 o3 o4 l3 c3 l4 c4 _ _ _ (H2.out.1.later hS2) (H2.out.2.later hS2) (by omega) (by omega) c HC.out.2.2).mono ?_; rintro e f3 ⟨rfl, hb⟩; skip; have hbF3 : Below U.heap.size U f3 := bnext hS hb; have hzF3 := hbF3.size; clear hS hb S2; clear hS2; skip))
    all_goals go_wp2
    go_ret
    exact ⟨rfl, bnext HU.out.2.2 hbF3⟩
set_option maxRecDepth 100000 in
set_option maxHeartbeats 4000000 in
theorem cmp_rat (na nb : Bool) (ao po bo qo : Option Addr) (la ca lp cp lb cb lq cq : Nat) (a b : Rat) (w : World) (hx : RatAt w na ao la ca po lp cp a) (hy : RatAt w nb bo lb cb qo lq cq b) (ha : Sz a 10000) (hb : Sz b 10000) (hT0 : TabAt 0 Lib.deBruijn64tab w) (c : Int) (hc : cmpQ a b = c) :
    Calls Tryz.prog 30 #[.agg #[.bool na, .slice ao la ca, .slice po lp cp], .agg #[.bool nb, .slice bo lb cb, .slice qo lq cq]] w fun e w' => e = .returned (.int .i64 c) ∧ Below w.heap.size w w' := by
  obtain ⟨W, hT⟩ := RTwo2.mk' w na nb ao po bo qo la ca lp cp lb cb lq cq
  have hsz := hT.size
  have HX : Hid (RatAt W na ao la ca po lp cp a ∧ RatAt W nb bo lb cb qo lq cq b ∧ TabAt 0 Lib.deBruijn64tab W) := ⟨hx.later hT.below, hy.later hT.below, tab_later hT0 hT.below⟩
  have hla : la ≤ 10000 := (hx.len ha).1
  have hlp : lp ≤ 10000 := (hx.len ha).2
  have hlb : lb ≤ 10000 := (hy.len hb).1
  have hlq : lq ≤ 10000 := (hy.len hb).2
  have HC : Hid (cmpQ a b = c ∧ Sz a 10000 ∧ Sz b 10000) := ⟨hc, ha, hb⟩
  clear hx hy ha hb hc hT0
  go_enter Tryz.func30, Tryz.ntmps30
  go_wp2_with (first
    | (go_at_call 73; rw [← hT.eq]; refine (checkBoth_good na nb ao po bo qo la ca lp cp lb cb lq cq a b _ HX.out.1 HX.out.2.1 (by omega) (by omega) (by omega) (by omega) HX.out.2.2).mono ?_; rintro e w1 ⟨rfl, hb1⟩; obtain ⟨p0, p1, p2⟩ := hT.a.later hb1 (by omega); obtain ⟨q0, q1, q2⟩ := hT.b.later hb1 (by omega))
    | (go_at_call 74; refine (compare_rat na nb ao po bo qo la ca lp cp lb cb lq cq a b _ (HX.out.1.later hb1) (HX.out.2.1.later hb1) HC.out.2.1 HC.out.2.2 c HC.out.1).mono ?_; rintro e w2 ⟨rfl, hb2⟩))
  go_ret
  exact ⟨rfl, bnext hT.below (bnext hb1 hb2)⟩
end Go.Proofs.YtiiefpnkpfliiaaGreatDoor
/-
  Variables that hold numbers: what a store leaves.
-/
namespace Go.Proofs.YtiiefpnkpfliiaaGreatDoor
open Go.RowKit
set_option linter.unusedVariables false
set_option linter.unusedSimpArgs false
theorem cell_far {w : World} {r j b o : Nat} {v : Value} (h : b ≠ r) : (w.setCell ⟨r, j, none⟩ v).cell? ⟨b, o, none⟩ = w.cell? ⟨b, o, none⟩ := by
  simp only [World.cell?, Below.heap_setCell w ⟨r, j, none⟩ v b h]
/-- two numbers, in whatever memory -/
def TwoRef (w w' : World) (e : Ending) (q r : Int) : Prop :=
  ∃ n1 ao1 l1 c1 n2 ao2 l2 c2, e = .returned (.tuple #[.agg #[.bool n1, .slice ao1 l1 c1], .agg #[.bool n2, .slice ao2 l2 c2]]) ∧ IntAt w' n1 ao1 l1 c1 q ∧ IntAt w' n2 ao2 l2 c2 r ∧ Below w.heap.size w w'
theorem floor_rest {a b q r : Int} (h : FloorOf a b q r) : FloorOf a b q (a - q * b) := by
  have e : a - q * b = r := by have := h.1; rw [Int.mul_comm] at this; omega
  rw [e]; exact h
theorem RowAt.boxed {w : World} {k : IntKind} {ao : Option Addr} {len cap r : Nat} {zs : List Int} {n : Bool} {so : Option Addr} {l c : Nat} (h : RowAt w k ao len cap zs) (hf : Boxed w r n so l c) (x y : Value) : RowAt ((w.setCell ⟨r, 0, none⟩ x).setCell ⟨r, 1, none⟩ y) k ao len cap zs := by
  refine ⟨h.hlen, h.hcap, h.hnil, ?_⟩
  rcases h.hat with h0 | ⟨b, off, h1, hlt, h2⟩
  · exact Or.inl h0
  · refine Or.inr ⟨b, off, h1, by simpa [World.setCell] using hlt, fun t ht => ?_⟩
    have hc := h2 t ht
    rw [setCell_ne, setCell_ne]
    · exact hc
    · rintro ⟨e1, e2⟩
      simp only at e1 e2
      rw [e1, e2, hf.1] at hc; cases hc
    · rintro ⟨e1, e2⟩
      simp only at e1 e2
      rw [e1, e2, hf.2] at hc; cases hc
theorem boxed_far {w : World} {r s : Nat} {n : Bool} {so : Option Addr} {l c : Nat} (h : Boxed w r n so l c) (hs : r ≠ s) (x y : Value) : Boxed ((w.setCell ⟨s, 0, none⟩ x).setCell ⟨s, 1, none⟩ y) r n so l c :=
  ⟨by rw [cell_far hs, cell_far hs]; exact h.1, by rw [cell_far hs, cell_far hs]; exact h.2⟩
theorem frozen_far {w : World} {r j b o : Nat} {v : Value} : (w.setCell ⟨r, j, none⟩ v).frozen? ⟨b, o, none⟩ = w.frozen? ⟨b, o, none⟩ := by simp [go_sem]
theorem fresh_far {w : World} {r s : Nat} (h : Fresh w r) (hs : r ≠ s) (x y : Value) : Fresh ((w.setCell ⟨s, 0, none⟩ x).setCell ⟨s, 1, none⟩ y) r :=
  ⟨fun j => by rw [frozen_far, frozen_far]; exact h.1 j, by rw [cell_far hs, cell_far hs]; exact h.2.1, by rw [cell_far hs, cell_far hs]; exact h.2.2⟩
theorem boxed_new {w : World} {r : Nat} {n m : Bool} {so tp : Option Addr} {l c l' c' : Nat} (h : Boxed w r n so l c) : Boxed ((w.setCell ⟨r, 0, none⟩ (.bool m)).setCell ⟨r, 1, none⟩ (.slice tp l' c')) r m tp l' c' :=
  ⟨by simp [go_sem, h.1, h.2], by simp [go_sem, h.1, h.2]⟩
end Go.Proofs.YtiiefpnkpfliiaaGreatDoor
/-
  Walks: whole parts; whole numbers as rationals; middles. (gen/rfloor.py)
-/
namespace Go.Proofs.YtiiefpnkpfliiaaGreatDoor
open Go.RowKit
set_option linter.unusedVariables false
set_option linter.unusedSimpArgs false
theorem floor_len (a : Rat) : (mag (a.num / (a.den : Int)).natAbs).length ≤ (mag a.num.natAbs).length + 2 := by
  have h : (a.num / (a.den : Int)).natAbs ≤ a.num.natAbs + 1 := by
    rw [Int.natAbs_ediv]
    have := Nat.div_le_self a.num.natAbs (a.den : Int).natAbs
    split <;> omega
  have h1 : (mag 1).length = 1 := by decide
  have h2 := mag_len_add a.num.natAbs 1
  exact Nat.le_trans (mag_len_mono h) (by omega)
/-- a rational handed in, two numbers to come -/
structure RI3 (w W : World) (na : Bool) (ao po : Option Addr) (la ca lp cp : Nat) : Prop where
  eq : W = ((w.alloc (.cells #[.bool na, .slice ao la ca, .slice po lp cp] 28)).alloc (.cells #[.bool false, .slice none 0 0] 26)).alloc (.cells #[.bool false, .slice none 0 0] 26)
  below : Below w.heap.size w W
  size : W.heap.size = w.heap.size + 3
  a : Boxed3 W w.heap.size na ao la ca po lp cp
  r : Fresh W (w.heap.size + 1)
  q : Fresh W (w.heap.size + 1 + 1)
theorem RI3.mk' (w : World) (na : Bool) (ao po : Option Addr) (la ca lp cp : Nat) : ∃ W, RI3 w W na ao po la ca lp cp :=
  ⟨_, rfl, (((Below.refl _ _).alloc (Nat.le_refl _) _).alloc (by simp) _).alloc (by simp; omega) _, by simp, ⟨by simp [go_sem], by simp [go_sem], by simp [go_sem]⟩, ⟨fun j => by simp [go_sem], by simp [go_sem], by simp [go_sem]⟩, ⟨fun j => by simp [go_sem], by simp [go_sem], by simp [go_sem]⟩⟩
/-- a rational handed in, a number to come -/
structure RI2 (w W : World) (na : Bool) (ao po : Option Addr) (la ca lp cp : Nat) : Prop where
  eq : W = (w.alloc (.cells #[.bool na, .slice ao la ca, .slice po lp cp] 28)).alloc (.cells #[.bool false, .slice none 0 0] 26)
  below : Below w.heap.size w W
  size : W.heap.size = w.heap.size + 2
  a : Boxed3 W w.heap.size na ao la ca po lp cp
  r : Fresh W (w.heap.size + 1)
theorem RI2.mk' (w : World) (na : Bool) (ao po : Option Addr) (la ca lp cp : Nat) : ∃ W, RI2 w W na ao po la ca lp cp :=
  ⟨_, rfl, ((Below.refl _ _).alloc (Nat.le_refl _) _).alloc (by simp) _, by simp, ⟨by simp [go_sem], by simp [go_sem], by simp [go_sem]⟩, ⟨fun j => by simp [go_sem], by simp [go_sem], by simp [go_sem]⟩⟩
theorem nw_word {w : World} {n : Nat} {z : Int} (h : mag n = [z]) : Own w.heap.size (w.alloc (.cells #[.int .u64 z] 59)) .u64 59 (some ⟨w.heap.size, 0, none⟩) 1 1 (mag n) := by
  rw [h]; exact Own.whole (Blk.new w .u64 59 [z]) (Nat.le_refl _) rfl
set_option maxRecDepth 100000 in
set_option maxHeartbeats 4000000 in
theorem qint_any (n : Int) (w : World) (h1 : -9223372036854775808 ≤ n) (h2 : n ≤ 9223372036854775807) :
    Calls Tryz.prog 44 #[.int .i64 n] w fun e w' => SomeR w w' e (n : Rat) := by
  obtain ⟨W, hT⟩ := R1.mk' w
  have hsz := hT.size
  go_enter Tryz.func44, Tryz.ntmps44
  go_wp2_with (first
    | (go_at_call 46; rw [← hT.eq]; refine (rfrom_any n _ h1 h2).mono ?_; rintro e w1 ⟨n1, o1, l1, c1, rfl, hs, ho, hb1⟩; have H1 : Hid (IntAt w1 n1 o1 l1 c1 n) := ho.int hs; clear hs ho)
    | (go_at_call 26; refine (qfrom_any n1 o1 l1 c1 _ _ H1.out.row).mono ?_; rintro e w2 ⟨p2, m2, k2, rfl, hr, ho, hb2⟩; have H2 : Hid (RatAt w2 n1 o1 l1 c1 p2 m2 k2 (n : Rat) ∧ Below W.heap.size W w2) := ⟨⟨⟨H1.out.sg, hr⟩, ho.row⟩, bnext hb1 hb2⟩; clear hr ho; obtain ⟨g5, g2, g3, g4⟩ := hT.r.later H2.out.2 (by omega)))
  exact bodyPost_ret (v := .agg #[.bool n1, .slice o1 l1 c1, .slice p2 m2 k2]) (by simp [results, Tryz.results44, go_sem, g2, g3, g4]) rfl
    ⟨_, _, _, _, _, _, _, rfl, rat_kept H2.out.1 ⟨g2, g3, g4⟩, below_store3 (bnext hT.below H2.out.2) (by omega) _ _ _⟩
end Go.Proofs.YtiiefpnkpfliiaaGreatDoor
/-
  The simplest fraction between two: in plain numbers.
-/
namespace Go.Proofs.YtiiefpnkpfliiaaGreatDoor
set_option linter.unusedVariables false
/-- the simplest u / v from p / q to r / s, in k turns -/
def Simp : Nat → Nat → Nat → Nat → Nat → Nat → Nat → Prop
  | 0, p, q, r, s, u, v => (p % q = 0 ∧ u = p / q ∧ v = 1) ∨ (p % q ≠ 0 ∧ p / q < r / s ∧ u = p / q + 1 ∧ v = 1)
  | k + 1, p, q, r, s, u, v => p % q ≠ 0 ∧ r / s = p / q ∧ ∃ u' v', Simp k s (r % s) q (p % q) u' v' ∧ u = p / q * u' + v' ∧ v = u'
theorem Simp.whole {p q r s : Nat} (h : p % q = 0) : Simp 0 p q r s (p / q) 1 := Or.inl ⟨h, rfl, rfl⟩
theorem Simp.next {p q r s : Nat} (h : p % q ≠ 0) (h2 : p / q < r / s) : Simp 0 p q r s (p / q + 1) 1 := Or.inr ⟨h, h2, rfl, rfl⟩
theorem Simp.turn {k p q r s u v : Nat} (h : p % q ≠ 0) (h2 : r / s = p / q) (h3 : Simp k s (r % s) q (p % q) u v) : Simp (k + 1) p q r s (p / q * u + v) u := ⟨h, h2, u, v, h3, rfl, rfl⟩
theorem Simp.turned' {k p q r s u v : Nat} (h : Simp k p q r s u v) (h0 : p % q ≠ 0) (h1 : ¬ p / q < r / s) : ∃ k' u' v', k' < k ∧ r / s = p / q ∧ Simp k' s (r % s) q (p % q) u' v' ∧ u = p / q * u' + v' ∧ v = u' := by
  match k, h with
  | 0, h =>
    rcases h with ⟨h, _, _⟩ | ⟨_, h, _, _⟩
    · exact absurd h h0
    · exact absurd h h1
  | k + 1, h =>
    obtain ⟨_, h2, u', v', h3, e1, e2⟩ := h
    exact ⟨k, u', v', Nat.lt_succ_self _, h2, h3, e1, e2⟩
theorem Simp.turned {k p q r s u v : Nat} (h : Simp k p q r s u v) (h0 : p % q ≠ 0) (h1 : ¬ p / q < r / s) : ∃ k' u' v', r / s = p / q ∧ Simp k' s (r % s) q (p % q) u' v' ∧ u = p / q * u' + v' ∧ v = u' := by
  obtain ⟨k', u', v', _, h⟩ := h.turned' h0 h1
  exact ⟨k', u', v', h⟩
theorem Simp.wholes {k p q r s u v : Nat} (h : Simp k p q r s u v) (h0 : p % q = 0) : u = p / q ∧ v = 1 := by
  match k, h with
  | 0, h =>
    rcases h with ⟨_, e1, e2⟩ | ⟨h, _, _, _⟩
    · exact ⟨e1, e2⟩
    · exact absurd h0 h
  | k + 1, h => exact absurd h0 h.1
theorem Simp.nexts {k p q r s u v : Nat} (h : Simp k p q r s u v) (h0 : p % q ≠ 0) (h1 : p / q < r / s) : u = p / q + 1 ∧ v = 1 := by
  match k, h with
  | 0, h =>
    rcases h with ⟨h, _, _⟩ | ⟨_, _, e1, e2⟩
    · exact absurd h h0
    · exact ⟨e1, e2⟩
  | k + 1, h => have := h.2.1; omega
/-- by turns -/
theorem Simp.by_turns {P : Nat → Nat → Nat → Nat → Nat → Nat → Nat → Prop} (h1 : ∀ p q r s, p % q = 0 → P 0 p q r s (p / q) 1) (h2 : ∀ p q r s, p % q ≠ 0 → p / q < r / s → P 0 p q r s (p / q + 1) 1) (h3 : ∀ k p q r s u v, p % q ≠ 0 → r / s = p / q → Simp k s (r % s) q (p % q) u v → P k s (r % s) q (p % q) u v → P (k + 1) p q r s (p / q * u + v) u) : ∀ (k p q r s u v : Nat), Simp k p q r s u v → P k p q r s u v := by
  intro k
  induction k with
  | zero =>
    intro p q r s u v h
    rcases h with ⟨h, e1, e2⟩ | ⟨h, h', e1, e2⟩
    · subst e1 e2; exact h1 p q r s h
    · subst e1 e2; exact h2 p q r s h h'
  | succ k ih =>
    intro p q r s u v h
    obtain ⟨h, h', u', v', h4, e1, e2⟩ := h
    subst e1 e2
    exact h3 k p q r s _ _ h h' h4 (ih _ _ _ _ _ _ h4)
theorem frac_floor {p q r s : Nat} (hq : 0 < q) (hs : 0 < s) (h : p * s ≤ r * q) : p / q ≤ r / s := by
  rw [Nat.le_div_iff_mul_le hs]
  have h1 : p / q * q ≤ p := Nat.div_mul_le_self p q
  have h2 : p / q * s * q ≤ r * q := by
    rw [Nat.mul_assoc, Nat.mul_comm s q, ← Nat.mul_assoc]
    exact Nat.le_trans (Nat.mul_le_mul_right s h1) h
  exact Nat.le_of_mul_le_mul_right h2 hq
/-- what is left, turned over, stands in the other order -/
theorem frac_left {p q r s : Nat} (h : p * s ≤ r * q) (h2 : r / s = p / q) : s * (p % q) ≤ q * (r % s) := by
  have e1 := Nat.div_add_mod p q
  have e2 := Nat.div_add_mod r s
  rw [h2] at e2
  rw [← e1, ← e2, Nat.add_mul, Nat.add_mul] at h
  have e3 : q * (p / q) * s = s * (p / q) * q := by rw [Nat.mul_assoc, Nat.mul_comm q, Nat.mul_comm (p / q) s]
  rw [e3, Nat.mul_comm (p % q) s, Nat.mul_comm (r % s) q] at h
  exact Nat.le_of_add_le_add_left h
theorem left_pos {p q r s : Nat} (hs : 0 < s) (h : p * s ≤ r * q) (h2 : r / s = p / q) (h3 : p % q ≠ 0) : 0 < r % s := by
  have h4 := frac_left h h2
  have h5 : 0 < s * (p % q) := Nat.mul_pos hs (by omega)
  exact Nat.pos_of_ne_zero fun e => by rw [e, Nat.mul_zero] at h4; omega
theorem Simp.ex : ∀ (n p q r s : Nat), q + s ≤ n → 0 < q → 0 < s → p * s ≤ r * q → ∃ k u v, Simp k p q r s u v
  | 0, p, q, r, s, hn, hq, hs, h => absurd hn (by omega)
  | n + 1, p, q, r, s, hn, hq, hs, h => by
    by_cases h0 : p % q = 0
    · exact ⟨0, _, _, .whole h0⟩
    by_cases h1 : p / q < r / s
    · exact ⟨0, _, _, .next h0 h1⟩
    have h2 : r / s = p / q := by have := frac_floor hq hs h; omega
    have h3 := left_pos hs h h2 h0
    have h4 := Nat.mod_lt r hs
    have h5 := Nat.mod_lt p hq
    obtain ⟨k, u, v, h6⟩ := Simp.ex n s (r % s) q (p % q) (by omega) h3 (by omega) (frac_left h h2)
    exact ⟨k + 1, _, _, .turn h0 h2 h6⟩
theorem Simp.pos {k p q r s u v : Nat} (h : Simp k p q r s u v) : 0 < p → 0 < s → 0 < u ∧ 0 < v := by
  revert h
  refine Simp.by_turns (P := fun k p q r s u v => 0 < p → 0 < s → 0 < u ∧ 0 < v) ?_ ?_ ?_ k p q r s u v
  · intro p q r s h0
    exact fun hp _ => ⟨Nat.pos_of_ne_zero fun e => by have e1 := Nat.div_add_mod p q; rw [e, h0] at e1; omega, Nat.one_pos⟩
  · intro p q r s _ _
    exact fun hp _ => ⟨Nat.succ_pos _, Nat.one_pos⟩
  · intro k p q r s u v h0 _ _ ih

    intro hp hs
    obtain ⟨h1, h2⟩ := ih hs (Nat.pos_of_ne_zero h0)
    exact ⟨Nat.lt_of_lt_of_le h2 (Nat.le_add_left _ _), h1⟩
theorem Simp.coprime {k p q r s u v : Nat} (h : Simp k p q r s u v) : Nat.gcd u v = 1 := by
  revert h
  refine Simp.by_turns (P := fun k p q r s u v => Nat.gcd u v = 1) ?_ ?_ ?_ k p q r s u v
  · intro p q r s h0
    exact Nat.gcd_one_right _
  · intro p q r s _ _
    exact Nat.gcd_one_right _
  · intro k p q r s u v h0 _ _ ih

    rw [Nat.gcd_comm, Nat.gcd_mul_right_add_right]
    exact ih
/-- it lies there -/
theorem Simp.within {k p q r s u v : Nat} (h : Simp k p q r s u v) : 0 < q → 0 < s → p * s ≤ r * q → p * v ≤ u * q ∧ u * s ≤ r * v := by
  revert h
  refine Simp.by_turns (P := fun k p q r s u v => 0 < q → 0 < s → p * s ≤ r * q → p * v ≤ u * q ∧ u * s ≤ r * v) ?_ ?_ ?_ k p q r s u v
  · intro p q r s h0

    intro hq hs h
    have h1 := frac_floor hq hs h
    have e1 := Nat.div_add_mod p q
    rw [h0, Nat.mul_comm] at e1
    refine ⟨by omega, ?_⟩
    rw [Nat.mul_one]
    exact Nat.le_trans (Nat.mul_le_mul_right s h1) (Nat.div_mul_le_self r s)
  · intro p q r s h0 h2

    intro hq hs h
    refine ⟨?_, ?_⟩
    · have := Nat.div_add_mod p q
      have h3 := Nat.mod_lt p hq
      rw [Nat.mul_one, Nat.add_mul, Nat.one_mul, Nat.mul_comm (p / q) q]; omega
    · rw [Nat.mul_one]
      exact Nat.le_trans (Nat.mul_le_mul_right s h2) (Nat.div_mul_le_self r s)
  · intro k p q r s u v h0 h2 _ ih

    intro hq hs h
    obtain ⟨h3, h4⟩ := ih (left_pos hs h h2 h0) (Nat.pos_of_ne_zero h0) (frac_left h h2)
    have e1 := Nat.div_add_mod p q
    have e2 := Nat.div_add_mod r s
    rw [h2] at e2
    refine ⟨?_, ?_⟩
    · have a1 : p * u = q * (p / q) * u + u * (p % q) := by rw [Nat.mul_comm u, ← Nat.add_mul, e1]
      have a2 : (p / q * u + v) * q = q * (p / q) * u + q * v := by rw [Nat.add_mul, Nat.mul_comm q (p / q), Nat.mul_assoc, Nat.mul_assoc, Nat.mul_comm u q, Nat.mul_comm v q]
      rw [a1, a2]; omega
    · have a1 : r * u = s * (p / q) * u + u * (r % s) := by rw [Nat.mul_comm u, ← Nat.add_mul, e2]
      have a2 : (p / q * u + v) * s = s * (p / q) * u + s * v := by rw [Nat.add_mul, Nat.mul_comm s (p / q), Nat.mul_assoc, Nat.mul_assoc, Nat.mul_comm u s, Nat.mul_comm v s]
      rw [a1, a2]; omega
/-- none there is simpler -/
theorem Simp.least {k p q r s u v : Nat} (h : Simp k p q r s u v) : 0 < q → 0 < s → p * s ≤ r * q → ∀ y z, 0 < z → p * z ≤ y * q → y * s ≤ r * z → u ≤ y ∧ v ≤ z := by
  revert h
  refine Simp.by_turns (P := fun k p q r s u v => 0 < q → 0 < s → p * s ≤ r * q → ∀ y z, 0 < z → p * z ≤ y * q → y * s ≤ r * z → u ≤ y ∧ v ≤ z) ?_ ?_ ?_ k p q r s u v
  · intro p q r s h0

    intro hq hs h y z hz h1 h2
    have e1 := Nat.div_add_mod p q
    rw [h0, Nat.mul_comm] at e1
    refine ⟨?_, hz⟩
    refine Nat.le_of_mul_le_mul_right (c := q) ?_ hq
    refine Nat.le_trans ?_ h1
    refine Nat.le_trans (m := p) (by omega) (Nat.le_mul_of_pos_right p hz)
  · intro p q r s h0 h3

    intro hq hs h y z hz h1 h2
    refine ⟨?_, hz⟩
    refine Nat.lt_of_mul_lt_mul_right (a := q) ?_
    refine Nat.lt_of_lt_of_le ?_ h1
    have e1 := Nat.div_add_mod p q
    rw [Nat.mul_comm] at e1
    exact Nat.lt_of_lt_of_le (m := p) (by omega) (Nat.le_mul_of_pos_right p hz)
  · intro k p q r s u v h0 h3 _ ih

    intro hq hs h y z hz h1 h2
    have e1 := Nat.div_add_mod p q
    have e2 := Nat.div_add_mod r s
    rw [h3] at e2
    have a1 : p * z = q * (p / q) * z + p % q * z := by rw [← Nat.add_mul, e1]
    have a2 : r * z = s * (p / q) * z + r % s * z := by rw [← Nat.add_mul, e2]
    have a3 : q * (p / q) * z = p / q * z * q := by rw [Nat.mul_assoc, Nat.mul_comm]
    have a4 : s * (p / q) * z = p / q * z * s := by rw [Nat.mul_assoc, Nat.mul_comm]
    have h4 : 0 < p % q * z := Nat.mul_pos (Nat.pos_of_ne_zero h0) hz
    have h5 : p / q * z < y := Nat.lt_of_mul_lt_mul_right (a := q) (by omega)
    obtain ⟨t, rfl⟩ : ∃ t, y = p / q * z + t := ⟨y - p / q * z, by omega⟩
    rw [Nat.add_mul] at h1 h2
    obtain ⟨b1, b2⟩ := ih (left_pos hs h h3 h0) (Nat.pos_of_ne_zero h0) (frac_left h h3) z t (by omega) (by rw [Nat.mul_comm s t, Nat.mul_comm z (r % s)]; omega) (by rw [Nat.mul_comm z (p % q), Nat.mul_comm q t]; omega)
    exact ⟨Nat.add_le_add (Nat.mul_le_mul_left _ b1) b2, b1⟩
theorem Simp.one {k k' p q r s u v u' v' : Nat} (h : Simp k p q r s u v) (h' : Simp k' p q r s u' v') (hp : 0 < p) (hq : 0 < q) (hs : 0 < s) (hl : p * s ≤ r * q) : u = u' ∧ v = v' := by
  have a := h.within hq hs hl
  have b := h'.within hq hs hl
  have c := h.least hq hs hl u' v' (h'.pos hp hs).2 b.1 b.2
  have d := h'.least hq hs hl u v (h.pos hp hs).2 a.1 a.2
  omega
theorem Simp.size {k p q r s u v : Nat} (h : Simp k p q r s u v) (hq : 0 < q) (hs : 0 < s) (hl : p * s ≤ r * q) : u ≤ p ∧ v ≤ q :=
  h.least hq hs hl p q hq (Nat.le_refl _) hl
end Go.Proofs.YtiiefpnkpfliiaaGreatDoor
