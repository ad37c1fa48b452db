/-
  A pack of walks and facts: SK, RL.
-/
import Derived.Test.YtiiefpnkpfliiaaGreatDoorPC07
import Derived.Test.YtiiefpnkpfliiaaGreatDoorPC15
import Derived.Test.YtiiefpnkpfliiaaGreatDoorPC18
import Derived.Test.YtiiefpnkpfliiaaGreatDoorPC19
import Derived.Test.YtiiefpnkpfliiaaGreatDoorPC22
set_option maxRecDepth 100000
set_option maxHeartbeats 40000000
set_option linter.unusedVariables false
set_option linter.unusedSimpArgs false
namespace Go.Proofs.YtiiefpnkpfliiaaGreatDoor
open Go.RowKit
def SimpP (a b x : Rat) : Prop := 0 < x.num ∧ ∃ k, Simp k a.num.natAbs a.den b.num.natAbs b.den x.num.natAbs x.den
def SimpQ (a b x : Rat) : Prop := (0 < a.num ∧ SimpP a b x) ∨ (b.num < 0 ∧ SimpP (-b) (-a) (-x)) ∨ (a.num ≤ 0 ∧ 0 ≤ b.num ∧ x = 0)
def LeQ (a b : Rat) : Prop := a.num * (b.den : Int) ≤ b.num * (a.den : Int)
theorem LeQ.neg {a b : Rat} (h : LeQ a b) : LeQ (-b) (-a) := by
 unfold LeQ at *
 rw [Rat.neg_num, Rat.neg_num, Rat.neg_den, Rat.neg_den, Int.neg_mul, Int.neg_mul]; omega
theorem LeQ.pos {a b : Rat} (h : LeQ a b) (h0 : 0 < a.num) : 0 < b.num ∧ a.num.natAbs * b.den ≤ b.num.natAbs * a.den := by
 unfold LeQ at h
 have hb := b.den_pos
 have ha := a.den_pos
 have h1 : 0 < a.num * (b.den : Int) := Int.mul_pos h0 (by omega)
 have h2 : 0 < b.num := by
  by_cases e : 0 < b.num
  ·
   exact e
  ·
   have := Int.mul_nonpos_of_nonpos_of_nonneg (show b.num ≤ 0 by omega) (show (0 : Int) ≤ (a.den : Int) by omega)
   omega
 refine ⟨h2, ?_⟩
 have e1 : ((a.num.natAbs : Nat) : Int) = a.num := by omega
 have e2 : ((b.num.natAbs : Nat) : Int) = b.num := by omega
 rw [← e1, ← e2] at h
 exact Int.ofNat_le.1 (by rw [Int.natCast_mul, Int.natCast_mul]; exact h)
theorem SimpP.ex {a b : Rat} (h : LeQ a b) (h0 : 0 < a.num) : ∃ x, SimpP a b x := by
 obtain ⟨h1, h2⟩ := h.pos h0
 obtain ⟨k, u, v, hS⟩ := Simp.ex _ a.num.natAbs a.den b.num.natAbs b.den (Nat.le_refl _) a.den_pos b.den_pos h2
 obtain ⟨hu, hv⟩ := hS.pos (by omega) b.den_pos
 exact ⟨⟨(u : Int), v, by omega, hS.coprime⟩, Int.ofNat_lt.2 hu, k, hS⟩
theorem SimpP.one {a b x y : Rat} (h : LeQ a b) (h0 : 0 < a.num) (hx : SimpP a b x) (hy : SimpP a b y) : x = y := by
 obtain ⟨h1, h2⟩ := h.pos h0
 obtain ⟨px, k, sx⟩ := hx
 obtain ⟨py, m, sy⟩ := hy
 obtain ⟨e1, e2⟩ := sx.one sy (by omega) a.den_pos b.den_pos h2
 exact Rat.ext (by omega) e2
theorem SimpP.size {a b x : Rat} {k : Nat} (h : LeQ a b) (h0 : 0 < a.num) (hx : SimpP a b x) (ha : Sz a k) : Sz x k := by
 obtain ⟨h1, h2⟩ := h.pos h0
 obtain ⟨px, m, sx⟩ := hx
 obtain ⟨e1, e2⟩ := sx.size a.den_pos b.den_pos h2
 exact ⟨Nat.le_trans (mag_len_mono e1) ha.1, Nat.le_trans (mag_len_mono e2) ha.2⟩
theorem SimpQ.ex {a b : Rat} (h : LeQ a b) : ∃ x, SimpQ a b x := by
 by_cases h1 : 0 < a.num
 ·
  obtain ⟨x, hx⟩ := SimpP.ex h h1
  exact ⟨x, Or.inl ⟨h1, hx⟩⟩
 ·
  by_cases h2 : b.num < 0
  ·
   obtain ⟨x, hx⟩ := SimpP.ex h.neg (by rw [Rat.neg_num]; omega)
   exact ⟨-x, Or.inr (Or.inl ⟨h2, by rw [Rat.neg_neg]; exact hx⟩)⟩
  ·
   exact ⟨0, Or.inr (Or.inr ⟨by omega, by omega, rfl⟩)⟩
theorem SimpQ.size {a b x : Rat} {k : Nat} (h : LeQ a b) (hx : SimpQ a b x) (ha : Sz a k) (hb : Sz b k) (hk : 1 ≤ k) : Sz x k := by
 rcases hx with ⟨h0, hx⟩ | ⟨h0, hx⟩ | ⟨_, _, rfl⟩
 ·
  exact hx.size h h0 ha
 ·
  have := hx.size h.neg (by rw [Rat.neg_num]; omega) hb.neg
  have := this.neg
  rwa [Rat.neg_neg] at this
 ·
  exact ⟨Nat.zero_le _, Nat.le_trans (show (mag 1).length ≤ 1 by decide) hk⟩
theorem max4 (p q r s : Nat) : ∃ M, (p ≤ M ∧ q ≤ M ∧ r ≤ M ∧ s ≤ M) ∧ (M = p ∨ M = q ∨ M = r ∨ M = s) := ⟨max (max p q) (max r s), by omega, by omega⟩
theorem simplest_rat (na nb : Bool) (ao po bo qo : Option Addr) (la ca lp cp lb cb lq cq : Nat) (a b x : Rat) (w : World) (hx : RatAt w na ao la ca po lp cp a) (hy : RatAt w nb bo lb cb qo lq cq b) (ha : Sz a 100) (hb : Sz b 100) (hle : LeQ a b) (h0 : 0 < a.num) (hS : SimpP a b x) :
  Calls Tryz.prog 87 #[.agg #[.bool na, .slice ao la ca, .slice po lp cp], .agg #[.bool nb, .slice bo lb cb, .slice qo lq cq]] w fun e w' => NewRat w w' e x := by
 obtain ⟨h1, h2⟩ := hle.pos h0
 obtain rfl : na = false := by rw [hx.num.sg]; unfold sgB; exact decide_eq_false (by omega)
 obtain rfl : nb = false := by rw [hy.num.sg]; unfold sgB; exact decide_eq_false (by omega)
 obtain ⟨px, k, sx⟩ := hS
 obtain ⟨M, hM, hM'⟩ := max4 a.num.natAbs a.den b.num.natAbs b.den
 have hML : (mag M).length ≤ 100 := by rcases hM' with rfl | rfl | rfl | rfl; exact ha.1; exact ha.2; exact hb.1; exact hb.2
 refine (simplest_any ao po bo qo la ca lp cp lb cb lq cq _ _ _ _ k _ _ M w sx hx.num.row hx.den hy.num.row hy.den (by omega) a.den_pos b.den_pos h2 hM hML).mono ?_
 rintro e w' ⟨o, l, c, o', l', c', rfl, h5, h6, hp, hbel⟩
 exact ⟨false, o, l, c, o', l', c', rfl, by unfold sgB; exact (decide_eq_false (by omega)).symm, h5, h6, hp, hbel⟩
theorem simple_pos (na nb : Bool) (ao po bo qo : Option Addr) (la ca lp cp lb cb lq cq : Nat) (a b x : Rat) (w : World) (hx : RatAt w na ao la ca po lp cp a) (hy : RatAt w nb bo lb cb qo lq cq b) (ha : Sz a 100) (hb : Sz b 100) (hT0 : TabAt 0 Lib.deBruijn64tab w) (hle : LeQ a b) (h0 : 0 < a.num) (hS : SimpP a b x) :
  Calls Tryz.prog 41 #[.agg #[.bool na, .slice ao la ca, .slice po lp cp], .agg #[.bool nb, .slice bo lb cb, .slice qo lq cq]] w fun e w' => NewRatErr w w' e x := by
 obtain ⟨W, hT⟩ := RTwo3.mk' w na nb ao po bo qo la ca lp cp lb cb lq cq
 have hsz := hT.size
 have HX : Hid (RatAt W na ao la ca po lp cp a ∧ RatAt W nb bo lb cb qo lq cq b ∧ TabAt 0 Lib.deBruijn64tab W) := ⟨hx.later hT.below, hy.later hT.below, tab_later hT0 hT.below⟩
 have hla : la ≤ 100 := (hx.len ha).1
 have hlp : lp ≤ 100 := (hx.len ha).2
 have hlb : lb ≤ 100 := (hy.len hb).1
 have hlq : lq ≤ 100 := (hy.len hb).2
 have HSz : Hid (Sz a 100 ∧ Sz b 100) := ⟨ha, hb⟩
 have hc2 : cmpQ a b = -1 ∨ cmpQ a b = 0 := by
  rcases cmpI_vals (a.num * (b.den : Int)) (b.num * (a.den : Int)) with h | h | h
  ·
   exact Or.inl h
  ·
   exact Or.inr h
  ·
   exfalso; unfold LeQ at hle; unfold cmpI at h; split at h; omega; split at h; omega; omega
 obtain ⟨c, hc⟩ : ∃ c, cmpQ a b = c := ⟨_, rfl⟩
 rw [hc] at hc2
 have HC : Hid (cmpQ a b = c) := hc
 clear hc
 have HSA : Hid (cmpI a.num 0 = 1) := by show _ = _; unfold cmpI; rw [if_neg (by omega), if_pos h0]
 have HP : Hid (LeQ a b ∧ SimpP a b x) := ⟨hle, hS⟩
 clear hle hS
 clear hx hy hT0 ha hb
 rcases hc2 with rfl | rfl
 all_goals
  go_enter Tryz.func41, Tryz.ntmps41
  go_wp2_with (first
   | (go_at_call 73; rw [← hT.eq]; refine (checkBoth_good na nb ao po bo qo la ca lp cp lb cb lq cq a b _ HX.out.1 HX.out.2.1 (by omega) (by omega) (by omega) (by omega) HX.out.2.2).mono ?_; rintro e w1 ⟨rfl, hb1⟩; obtain ⟨p0, p1, p2⟩ := hT.a.later hb1 (by omega); obtain ⟨q0, q1, q2⟩ := hT.b.later hb1 (by omega); obtain ⟨g5, g2, g3, g4⟩ := hT.r.later hb1 (by omega))
   | (go_at_call 74; refine (compare_rat na nb ao po bo qo la ca lp cp lb cb lq cq a b _ (HX.out.1.later hb1) (HX.out.2.1.later hb1) (HSz.out.1.mono (by decide)) (HSz.out.2.mono (by decide)) _ HC.out).mono ?_; rintro e w2 ⟨rfl, hb2'⟩; have hb2 := bnext hb1 hb2'; clear hb2'; clear p0 p1 p2 q0 q1 q2 g5 g2 g3 g4; obtain ⟨p0, p1, p2⟩ := hT.a.later hb2 (by omega); obtain ⟨q0, q1, q2⟩ := hT.b.later hb2 (by omega); obtain ⟨g5, g2, g3, g4⟩ := hT.r.later hb2 (by omega))
   | (go_at_call 55; refine (bsign_any na ao la ca a.num _ (HX.out.1.num.later hb2) (by omega) 1 HSA.out).mono ?_; rintro e w3 ⟨rfl, hb3'⟩; have hb3 := bnext hb2 hb3'; clear hb3'; clear p0 p1 p2 q0 q1 q2 g5 g2 g3 g4; obtain ⟨p0, p1, p2⟩ := hT.a.later hb3 (by omega); obtain ⟨q0, q1, q2⟩ := hT.b.later hb3 (by omega); obtain ⟨g5, g2, g3, g4⟩ := hT.r.later hb3 (by omega))
   | (go_at_call 87; refine (simplest_rat na nb ao po bo qo la ca lp cp lb cb lq cq a b x _ (HX.out.1.later hb3) (HX.out.2.1.later hb3) HSz.out.1 HSz.out.2 HP.out.1 h0 HP.out.2).mono ?_; rintro e w4 ⟨n4, o4, l4, c4, o5, l5, c5, rfl, hs, ho, hp, hpt, hb4⟩; have HA : Hid (n4 = sgB x.num ∧ Own w3.heap.size w4 .u64 59 o4 l4 c4 (mag x.num.natAbs) ∧ Own w3.heap.size w4 .u64 59 o5 l5 c5 (mag x.den) ∧ Parted o4 o5 ∧ Below W.heap.size W w4) := ⟨hs, ho, hp, hpt, bnext hb3 hb4⟩; have hz3 := hb3.size; clear hs ho hp hpt hb4 p0 p1 p2 q0 q1 q2 g5 g2 g3 g4; obtain ⟨g5, g2, g3, g4⟩ := hT.r.later HA.out.2.2.2.2 (by omega)))
  exact bodyPost_ret (v := .tuple #[.agg #[.bool n4, .slice o4 l4 c4, .slice o5 l5 c5], .int .i64 0]) (by simp [results, Tryz.results41, go_sem, g2, g3, g4]) rfl
   ⟨_, _, _, _, _, _, _, rfl, HA.out.1, (HA.out.2.1.store3 (by omega) _ _ _).mono (by omega), (HA.out.2.2.1.store3 (by omega) _ _ _).mono (by omega), HA.out.2.2.2.1, below_store3 (bnext hT.below HA.out.2.2.2.2) (by omega) _ _ _⟩
theorem simple_zero (na nb : Bool) (ao po bo qo : Option Addr) (la ca lp cp lb cb lq cq : Nat) (a b : Rat) (w : World) (hx : RatAt w na ao la ca po lp cp a) (hy : RatAt w nb bo lb cb qo lq cq b) (ha : Sz a 100) (hb : Sz b 100) (hT0 : TabAt 0 Lib.deBruijn64tab w) (hle : LeQ a b) (h0 : a.num ≤ 0) (h1 : 0 ≤ b.num) :
  Calls Tryz.prog 41 #[.agg #[.bool na, .slice ao la ca, .slice po lp cp], .agg #[.bool nb, .slice bo lb cb, .slice qo lq cq]] w fun e w' => NewRatErr w w' e 0 := by
 obtain ⟨W, hT⟩ := RTwo3.mk' w na nb ao po bo qo la ca lp cp lb cb lq cq
 have hsz := hT.size
 have HX : Hid (RatAt W na ao la ca po lp cp a ∧ RatAt W nb bo lb cb qo lq cq b ∧ TabAt 0 Lib.deBruijn64tab W) := ⟨hx.later hT.below, hy.later hT.below, tab_later hT0 hT.below⟩
 have hla : la ≤ 100 := (hx.len ha).1
 have hlp : lp ≤ 100 := (hx.len ha).2
 have hlb : lb ≤ 100 := (hy.len hb).1
 have hlq : lq ≤ 100 := (hy.len hb).2
 have HSz : Hid (Sz a 100 ∧ Sz b 100) := ⟨ha, hb⟩
 have hc2 : cmpQ a b = -1 ∨ cmpQ a b = 0 := by
  rcases cmpI_vals (a.num * (b.den : Int)) (b.num * (a.den : Int)) with h | h | h
  ·
   exact Or.inl h
  ·
   exact Or.inr h
  ·
   exfalso; unfold LeQ at hle; unfold cmpI at h; split at h; omega; split at h; omega; omega
 obtain ⟨c, hc⟩ : ∃ c, cmpQ a b = c := ⟨_, rfl⟩
 rw [hc] at hc2
 have HC : Hid (cmpQ a b = c) := hc
 clear hc
 obtain ⟨sa, hsa⟩ : ∃ c, cmpI a.num 0 = c := ⟨_, rfl⟩
 have hsa2 : sa = -1 ∨ sa = 0 := by rw [← hsa]; rcases Int.lt_or_eq_of_le h0 with h | h; exact Or.inl (by unfold cmpI; rw [if_pos h]); exact Or.inr (by unfold cmpI; rw [if_neg (by omega), if_neg (by omega)])
 have HSA : Hid (cmpI a.num 0 = sa) := hsa
 obtain ⟨sb, hsb⟩ : ∃ c, cmpI b.num 0 = c := ⟨_, rfl⟩
 have hsb2 : sb = 1 ∨ sb = 0 := by rw [← hsb]; rcases Int.lt_or_eq_of_le h1 with h | h; exact Or.inl (by unfold cmpI; rw [if_neg (by omega), if_pos h]); exact Or.inr (by unfold cmpI; rw [if_neg (by omega), if_neg (by omega)])
 have HSB : Hid (cmpI b.num 0 = sb) := hsb
 clear hsa hsb hle h0 h1
 clear hx hy hT0 ha hb
 rcases hc2 with rfl | rfl <;> rcases hsa2 with rfl | rfl <;> rcases hsb2 with rfl | rfl
 all_goals
  go_enter Tryz.func41, Tryz.ntmps41
  go_wp2_with (first
   | (go_at_call 73; rw [← hT.eq]; refine (checkBoth_good na nb ao po bo qo la ca lp cp lb cb lq cq a b _ HX.out.1 HX.out.2.1 (by omega) (by omega) (by omega) (by omega) HX.out.2.2).mono ?_; rintro e w1 ⟨rfl, hb1⟩; obtain ⟨p0, p1, p2⟩ := hT.a.later hb1 (by omega); obtain ⟨q0, q1, q2⟩ := hT.b.later hb1 (by omega); obtain ⟨g5, g2, g3, g4⟩ := hT.r.later hb1 (by omega))
   | (go_at_call 74; refine (compare_rat na nb ao po bo qo la ca lp cp lb cb lq cq a b _ (HX.out.1.later hb1) (HX.out.2.1.later hb1) (HSz.out.1.mono (by decide)) (HSz.out.2.mono (by decide)) _ HC.out).mono ?_; rintro e w2 ⟨rfl, hb2'⟩; have hb2 := bnext hb1 hb2'; clear hb2'; clear p0 p1 p2 q0 q1 q2 g5 g2 g3 g4; obtain ⟨p0, p1, p2⟩ := hT.a.later hb2 (by omega); obtain ⟨q0, q1, q2⟩ := hT.b.later hb2 (by omega); obtain ⟨g5, g2, g3, g4⟩ := hT.r.later hb2 (by omega))
   | (go_at_call 55; have _t := hb3; refine (bsign_any nb bo lb cb b.num _ (HX.out.2.1.num.later hb3) (by omega) _ HSB.out).mono ?_; rintro e w4 ⟨rfl, hb4'⟩; have hb4 := bnext hb3 hb4'; clear hb4'; clear p0 p1 p2 q0 q1 q2 g5 g2 g3 g4; obtain ⟨p0, p1, p2⟩ := hT.a.later hb4 (by omega); obtain ⟨q0, q1, q2⟩ := hT.b.later hb4 (by omega); obtain ⟨g5, g2, g3, g4⟩ := hT.r.later hb4 (by omega); clear p0 p1 p2 q0 q1 q2 g5 g2 g3 g4; have h9 : Below W.heap.size W (w4.alloc (.cells #[.int .u64 1] 59)) := below_alloc hb4 (Nat.le_refl _); obtain ⟨g5, g2, g3, g4⟩ := hT.r.later h9 (by omega))
   | (go_at_call 55; refine (bsign_any na ao la ca a.num _ (HX.out.1.num.later hb2) (by omega) _ HSA.out).mono ?_; rintro e w3 ⟨rfl, hb3'⟩; have hb3 := bnext hb2 hb3'; clear hb3'; clear p0 p1 p2 q0 q1 q2 g5 g2 g3 g4; obtain ⟨p0, p1, p2⟩ := hT.a.later hb3 (by omega); obtain ⟨q0, q1, q2⟩ := hT.b.later hb3 (by omega); obtain ⟨g5, g2, g3, g4⟩ := hT.r.later hb3 (by omega)))
  have hz4 := hb4.size
  exact bodyPost_ret (v := .tuple #[.agg #[.bool false, .slice none 0 0, .slice (some ⟨w4.heap.size, 0, none⟩) 1 1], .int .i64 0]) (by simp [results, Tryz.results41, go_sem, g2, g3, g4]) rfl
   ⟨_, _, _, _, _, _, _, rfl, rfl, Or.inl ⟨rfl, rfl, rfl, rfl⟩, (((nw_word one_word).mono (Nat.le_refl _)).store3 (by omega) _ _ _).mono (by omega), Parted.none_, below_store3 (bnext hT.below h9) (by omega) _ _ _⟩
theorem simple_neg (na nb : Bool) (ao po bo qo : Option Addr) (la ca lp cp lb cb lq cq : Nat) (a b x : Rat) (w : World) (hx : RatAt w na ao la ca po lp cp a) (hy : RatAt w nb bo lb cb qo lq cq b) (ha : Sz a 100) (hb : Sz b 100) (hT0 : TabAt 0 Lib.deBruijn64tab w) (hle : LeQ a b) (h0 : b.num < 0) (hS : SimpP (-b) (-a) (-x)) :
  Calls Tryz.prog 41 #[.agg #[.bool na, .slice ao la ca, .slice po lp cp], .agg #[.bool nb, .slice bo lb cb, .slice qo lq cq]] w fun e w' => NewRatErr w w' e x := by
 obtain ⟨W, hT⟩ := RTwo3.mk' w na nb ao po bo qo la ca lp cp lb cb lq cq
 have hsz := hT.size
 have HX : Hid (RatAt W na ao la ca po lp cp a ∧ RatAt W nb bo lb cb qo lq cq b ∧ TabAt 0 Lib.deBruijn64tab W) := ⟨hx.later hT.below, hy.later hT.below, tab_later hT0 hT.below⟩
 have hla : la ≤ 100 := (hx.len ha).1
 have hlp : lp ≤ 100 := (hx.len ha).2
 have hlb : lb ≤ 100 := (hy.len hb).1
 have hlq : lq ≤ 100 := (hy.len hb).2
 have HSz : Hid (Sz a 100 ∧ Sz b 100) := ⟨ha, hb⟩
 have hc2 : cmpQ a b = -1 ∨ cmpQ a b = 0 := by
  rcases cmpI_vals (a.num * (b.den : Int)) (b.num * (a.den : Int)) with h | h | h
  ·
   exact Or.inl h
  ·
   exact Or.inr h
  ·
   exfalso; unfold LeQ at hle; unfold cmpI at h; split at h; omega; split at h; omega; omega
 obtain ⟨c, hc⟩ : ∃ c, cmpQ a b = c := ⟨_, rfl⟩
 rw [hc] at hc2
 have HC : Hid (cmpQ a b = c) := hc
 clear hc
 have ha0 : a.num < 0 := by have := (hle.neg.pos (by rw [Rat.neg_num]; omega)).1; rw [Rat.neg_num] at this; omega
 have HSA : Hid (cmpI a.num 0 = (-1)) := by show _ = _; unfold cmpI; rw [if_pos ha0]
 have HSB : Hid (cmpI b.num 0 = (-1)) := by show _ = _; unfold cmpI; rw [if_pos h0]
 have HP : Hid (LeQ (-b) (-a) ∧ SimpP (-b) (-a) (-x) ∧ 0 < (-b).num ∧ Sz (-x) 100) := ⟨hle.neg, hS, by rw [Rat.neg_num]; omega, hS.size hle.neg (by rw [Rat.neg_num]; omega) hb.neg⟩
 clear hle hS ha0 h0
 clear hx hy hT0 ha hb
 rcases hc2 with rfl | rfl
 all_goals
  go_enter Tryz.func41, Tryz.ntmps41
  go_upto_region 9 with (first
   | (go_at_call 73; rw [← hT.eq]; refine (checkBoth_good na nb ao po bo qo la ca lp cp lb cb lq cq a b _ HX.out.1 HX.out.2.1 (by omega) (by omega) (by omega) (by omega) HX.out.2.2).mono ?_; rintro e w1 ⟨rfl, hb1⟩; obtain ⟨p0, p1, p2⟩ := hT.a.later hb1 (by omega); obtain ⟨q0, q1, q2⟩ := hT.b.later hb1 (by omega); obtain ⟨g5, g2, g3, g4⟩ := hT.r.later hb1 (by omega))
   | (go_at_call 74; refine (compare_rat na nb ao po bo qo la ca lp cp lb cb lq cq a b _ (HX.out.1.later hb1) (HX.out.2.1.later hb1) (HSz.out.1.mono (by decide)) (HSz.out.2.mono (by decide)) _ HC.out).mono ?_; rintro e w2 ⟨rfl, hb2'⟩; have hb2 := bnext hb1 hb2'; clear hb2'; clear p0 p1 p2 q0 q1 q2 g5 g2 g3 g4; obtain ⟨p0, p1, p2⟩ := hT.a.later hb2 (by omega); obtain ⟨q0, q1, q2⟩ := hT.b.later hb2 (by omega); obtain ⟨g5, g2, g3, g4⟩ := hT.r.later hb2 (by omega))
   | (go_at_call 55; have _t := hb3; refine (bsign_any nb bo lb cb b.num _ (HX.out.2.1.num.later hb3) (by omega) (-1) HSB.out).mono ?_; rintro e w4 ⟨rfl, hb4'⟩; have hb4 := bnext hb3 hb4'; clear hb4'; clear p0 p1 p2 q0 q1 q2 g5 g2 g3 g4; obtain ⟨p0, p1, p2⟩ := hT.a.later hb4 (by omega); obtain ⟨q0, q1, q2⟩ := hT.b.later hb4 (by omega); obtain ⟨g5, g2, g3, g4⟩ := hT.r.later hb4 (by omega))
   | (go_at_call 55; refine (bsign_any na ao la ca a.num _ (HX.out.1.num.later hb2) (by omega) (-1) HSA.out).mono ?_; rintro e w3 ⟨rfl, hb3'⟩; have hb3 := bnext hb2 hb3'; clear hb3'; clear p0 p1 p2 q0 q1 q2 g5 g2 g3 g4; obtain ⟨p0, p1, p2⟩ := hT.a.later hb3 (by omega); obtain ⟨q0, q1, q2⟩ := hT.b.later hb3 (by omega); obtain ⟨g5, g2, g3, g4⟩ := hT.r.later hb3 (by omega)))
  have hsU := hb4.size
  have KU : Hid (∀ w' : World, Below w4.heap.size w4 w' → w'.cell? ⟨w.heap.size, 0, none⟩ = some (.bool na) ∧ w'.cell? ⟨w.heap.size, 1, none⟩ = some (.slice ao la ca) ∧ w'.cell? ⟨w.heap.size, 2, none⟩ = some (.slice po lp cp) ∧ w'.cell? ⟨w.heap.size + 1, 0, none⟩ = some (.bool nb) ∧ w'.cell? ⟨w.heap.size + 1, 1, none⟩ = some (.slice bo lb cb) ∧ w'.cell? ⟨w.heap.size + 1, 2, none⟩ = some (.slice qo lq cq)) := fun w' h => (by obtain ⟨h0, h1, h2⟩ := hT.a.later (bnext hb4 h) (by omega); obtain ⟨h3, h4, h5⟩ := hT.b.later (bnext hb4 h) (by omega); exact ⟨h0, h1, h2, h3, h4, h5⟩)
  have KS : Hid (∀ X : World, Below w4.heap.size w4 X → ∀ x y z, (fun w' : World => w'.cell? ⟨w.heap.size, 0, none⟩ = some (.bool na) ∧ w'.cell? ⟨w.heap.size, 1, none⟩ = some (.slice ao la ca) ∧ w'.cell? ⟨w.heap.size, 2, none⟩ = some (.slice po lp cp) ∧ w'.cell? ⟨w.heap.size + 1, 0, none⟩ = some (.bool nb) ∧ w'.cell? ⟨w.heap.size + 1, 1, none⟩ = some (.slice bo lb cb) ∧ w'.cell? ⟨w.heap.size + 1, 2, none⟩ = some (.slice qo lq cq)) (put3 X (w.heap.size + 1 + 1) x y z)) := fun X h x y z => by
   obtain ⟨h0, h1, h2, h3, h4, h5⟩ := KU.out X h
   (try dsimp only)
   rw [put3_off (by omega), put3_off (by omega), put3_off (by omega), put3_off (by omega), put3_off (by omega), put3_off (by omega)]
   exact ⟨h0, h1, h2, h3, h4, h5⟩
  have HU : Hid (RatAt w4 na ao la ca po lp cp a ∧ RatAt w4 nb bo lb cb qo lq cq b) := ⟨HX.out.1.later hb4, HX.out.2.1.later hb4⟩
  clear p0 p1 p2 q0 q1 q2 g5 g2 g3 g4
  refine wp_region_noPanic ?_
  refine wp_region_held_drew (S := fun w' => (w'.cell? ⟨w.heap.size, 0, none⟩ = some (.bool na) ∧ w'.cell? ⟨w.heap.size, 1, none⟩ = some (.slice ao la ca) ∧ w'.cell? ⟨w.heap.size, 2, none⟩ = some (.slice po lp cp) ∧ w'.cell? ⟨w.heap.size + 1, 0, none⟩ = some (.bool nb) ∧ w'.cell? ⟨w.heap.size + 1, 1, none⟩ = some (.slice bo lb cb) ∧ w'.cell? ⟨w.heap.size + 1, 2, none⟩ = some (.slice qo lq cq))) (by kernel_rfl) (by (try dsimp only); exact KU.out _ (Below.refl _ _).drew) (fun hHeld => ?_)
  refine wpAnyH_take (i := 0) (oi := Oper.mk (some 31) _ _ _ _ _) (v := ?_) rfl (by kernel_rfl) (by kernel_rfl) (by kernel_rfl) (fun _ _ _ h => h) (Or.inl ⟨by rfl, ?_⟩) (by assumption) ?_
  rotate_left
  ·
   (intro w hSw; (try dsimp only at hSw); go_simp <;> (try with_reducible rfl))
  (try simp only [Act.put, List.setIfInBounds_toArray, List.set_cons_zero, List.set_cons_succ])
  refine wpAnyH_take (i := 2) (oi := Oper.mk (some 33) _ _ _ _ _) (v := ?_) rfl (by kernel_rfl) (by kernel_rfl) (by kernel_rfl) (fun _ _ _ h => h) (Or.inl ⟨by rfl, ?_⟩) (by assumption) ?_
  rotate_left
  ·
   (intro w hSw; (try dsimp only at hSw); go_simp <;> (try with_reducible rfl))
  (try simp only [Act.put, List.setIfInBounds_toArray, List.set_cons_zero, List.set_cons_succ])
  refine wpAnyH_ready (rs := [1]) (by kernel_rfl) (by simp) ?_
  refine AllReadyH.cons (o := Oper.mk (some 32) _ _ _ _ _) rfl (fun K hK => ?_) AllReadyH.nil
  go_simp
  (go_at_call 56; refine (opposite_rat nb bo qo lb cb lq cq b _ (HU.out.2.later (Below.refl _ _).drew) (by omega) (by omega)).mono ?_; rintro e f1 ⟨n1, o1, l1, c1, p1, m1, d1, rfl, hs, ho, hp, _, hb⟩; have H1 : Hid (RatAt f1 n1 o1 l1 c1 p1 m1 d1 (-b)) := ⟨ho.int hs, hp.row⟩; clear hs ho hp; have hbF1 : Below w4.heap.size w4 f1 := bnext (Below.refl _ _).drew hb; clear hb)
  (try go_wp2_with fail)
  clear hHeld
  refine hK.out _ _ (by (try dsimp only); first | exact KU.out _ (Below.refl _ _).drew | exact KU.out _ (by assumption)) (fun hHeld => ?_)
  clear hK K
  (try simp only [Act.put, List.setIfInBounds_toArray, List.set_cons_zero, List.set_cons_succ])
  refine wpAnyH_ready (rs := [3]) (by kernel_rfl) (by simp) ?_
  refine AllReadyH.cons (o := Oper.mk (some 34) _ _ _ _ _) rfl (fun K hK => ?_) AllReadyH.nil
  go_simp
  (go_at_call 56; refine (opposite_rat na ao po la ca lp cp a _ (HU.out.1.later hbF1) (by omega) (by omega)).mono ?_; rintro e f2 ⟨n2, o2, l2, c2, p2, m2, d2, rfl, hs, ho, hp, _, hb⟩; have H2 : Hid (RatAt f2 n2 o2 l2 c2 p2 m2 d2 (-a) ∧ RatAt f2 n1 o1 l1 c1 p1 m1 d1 (-b)) := ⟨⟨ho.int hs, hp.row⟩, H1.out.later hb⟩; clear hs ho hp; have hbF2 : Below w4.heap.size w4 f2 := bnext hbF1 hb; clear hb)
  (try go_wp2_with fail)
  clear hHeld
  refine hK.out _ _ (by (try dsimp only); first | exact KU.out _ (Below.refl _ _).drew | exact KU.out _ (by assumption)) (fun hHeld => ?_)
  clear hK K
  (try simp only [Act.put, List.setIfInBounds_toArray, List.set_cons_zero, List.set_cons_succ])
  refine wpAnyH_ready (rs := [4]) (by kernel_rfl) (by simp) ?_
  refine AllReadyH.cons (o := Oper.mk (some 35) _ _ _ _ _) rfl (fun K hK => ?_) AllReadyH.nil
  go_simp
  (go_at_call 87; refine (simplest_rat n1 n2 o1 p1 o2 p2 l1 c1 m1 d1 l2 c2 m2 d2 (-b) (-a) (-x) _ H2.out.2 H2.out.1 HSz.out.2.neg HSz.out.1.neg HP.out.1 HP.out.2.2.1 HP.out.2.1).mono ?_; rintro e f3 ⟨n3, o3, l3, c3, p3, m3, d3, rfl, hs, ho, hp, _, hb⟩; have H3 : Hid (RatAt f3 n3 o3 l3 c3 p3 m3 d3 (-x)) := ⟨ho.int hs, hp.row⟩; clear hs ho hp; have hbF3 : Below w4.heap.size w4 f3 := bnext hbF2 hb; clear hb)
  (try go_wp2_with fail)
  clear hHeld
  refine hK.out _ _ (by (try dsimp only); first | exact KU.out _ (Below.refl _ _).drew | exact KU.out _ (by assumption)) (fun hHeld => ?_)
  clear hK K
  (try simp only [Act.put, List.setIfInBounds_toArray, List.set_cons_zero, List.set_cons_succ])
  refine wpAnyH_ready (rs := [5]) (by kernel_rfl) (by simp) ?_
  refine AllReadyH.cons (o := Oper.mk (some 36) _ _ _ _ _) rfl (fun K hK => ?_) AllReadyH.nil
  go_simp
  (go_at_call 56; refine (opposite_rat n3 o3 p3 l3 c3 m3 d3 (-x) _ H3.out (by have := (H3.out.len HP.out.2.2.2).1; omega) (by have := (H3.out.len HP.out.2.2.2).2; omega)).mono ?_; rintro e f4 ⟨n4, o4, l4, c4, p4, m4, d4, rfl, hs, ho, hp, hpt, hb⟩; rw [Rat.neg_neg] at hs ho hp; have H4 : Hid (n4 = sgB x.num ∧ Own w4.heap.size f4 .u64 59 o4 l4 c4 (mag x.num.natAbs) ∧ Own w4.heap.size f4 .u64 59 p4 m4 d4 (mag x.den) ∧ Parted o4 p4 ∧ Below W.heap.size W f4) := ⟨hs, ho.mono hbF3.size, hp.mono hbF3.size, hpt, bnext hb4 (bnext hbF3 hb)⟩; clear hs ho hp hpt; have hbF4 : Below w4.heap.size w4 f4 := bnext hbF3 hb; clear hb)
  (try go_wp2_with fail)
  clear hHeld
  refine hK.out _ _ (by (try dsimp only); first | exact KU.out _ (Below.refl _ _).drew | exact KU.out _ (by assumption)) (fun hHeld => ?_)
  clear hK K
  (try simp only [Act.put, List.setIfInBounds_toArray, List.set_cons_zero, List.set_cons_succ])
  obtain ⟨g5, g2, g3, g4⟩ := hT.r.later H4.out.2.2.2.2 (by omega)
  refine wpAnyH_ready (rs := [6]) (by kernel_rfl) (by simp) ?_
  refine AllReadyH.cons (o := Oper.mk none _ _ _ _ _) rfl (fun K hK => ?_) AllReadyH.nil
  go_simp
  clear hHeld
  refine hK.out _ _ (by (try dsimp only); exact KS.out _ hbF4 _ _ _) (fun hHeld => ?_)
  clear hK K
  (try simp only [Act.put, List.setIfInBounds_toArray, List.set_cons_zero, List.set_cons_succ])
  refine wpAnyH_take (i := 7) (oi := Oper.mk (some 5) _ _ _ _ _) (v := ?_) rfl (by kernel_rfl) (by kernel_rfl) (by kernel_rfl) (fun _ _ _ h => h) (Or.inl ⟨by rfl, ?_⟩) (by assumption) ?_
  rotate_left
  ·
   (intro w hSw; (try dsimp only at hSw); go_simp <;> (try with_reducible rfl))
  (try simp only [Act.put, List.setIfInBounds_toArray, List.set_cons_zero, List.set_cons_succ])
  refine wpAnyH_done (by kernel_rfl) ?_ _
  refine NoPanic.normal ?_
  go_wp2
  exact bodyPost_ret (v := .tuple #[.agg #[.bool n4, .slice o4 l4 c4, .slice p4 m4 d4], .int .i64 0]) (by simp [results, Tryz.results41, go_sem, g2, g3, g4]) rfl
   ⟨_, _, _, _, _, _, _, rfl, H4.out.1, (H4.out.2.1.store3 (by omega) _ _ _).mono (by omega), (H4.out.2.2.1.store3 (by omega) _ _ _).mono (by omega), H4.out.2.2.2.1, below_store3 (bnext hT.below H4.out.2.2.2.2) (by omega) _ _ _⟩
theorem simple_order (na nb : Bool) (ao po bo qo : Option Addr) (la ca lp cp lb cb lq cq : Nat) (a b : Rat) (w : World) (hx : RatAt w na ao la ca po lp cp a) (hy : RatAt w nb bo lb cb qo lq cq b) (ha : Sz a 100) (hb : Sz b 100) (hT0 : TabAt 0 Lib.deBruijn64tab w) (hgt : cmpQ a b = 1) :
  Calls Tryz.prog 41 #[.agg #[.bool na, .slice ao la ca, .slice po lp cp], .agg #[.bool nb, .slice bo lb cb, .slice qo lq cq]] w fun e w' => e = .returned (.tuple #[.agg #[.bool false, .slice none 0 0, .slice none 0 0], .int .i64 23]) ∧ Below w.heap.size w w' := by
 obtain ⟨W, hT⟩ := RTwo3.mk' w na nb ao po bo qo la ca lp cp lb cb lq cq
 have hsz := hT.size
 have HX : Hid (RatAt W na ao la ca po lp cp a ∧ RatAt W nb bo lb cb qo lq cq b ∧ TabAt 0 Lib.deBruijn64tab W) := ⟨hx.later hT.below, hy.later hT.below, tab_later hT0 hT.below⟩
 have hla : la ≤ 100 := (hx.len ha).1
 have hlp : lp ≤ 100 := (hx.len ha).2
 have hlb : lb ≤ 100 := (hy.len hb).1
 have hlq : lq ≤ 100 := (hy.len hb).2
 have HSz : Hid (Sz a 100 ∧ Sz b 100) := ⟨ha, hb⟩
 have HC : Hid (cmpQ a b = 1) := hgt
 clear hgt
 clear hx hy hT0 ha hb
 go_enter Tryz.func41, Tryz.ntmps41
 go_wp2_with (first
  | (go_at_call 73; rw [← hT.eq]; refine (checkBoth_good na nb ao po bo qo la ca lp cp lb cb lq cq a b _ HX.out.1 HX.out.2.1 (by omega) (by omega) (by omega) (by omega) HX.out.2.2).mono ?_; rintro e w1 ⟨rfl, hb1⟩; obtain ⟨p0, p1, p2⟩ := hT.a.later hb1 (by omega); obtain ⟨q0, q1, q2⟩ := hT.b.later hb1 (by omega); obtain ⟨g5, g2, g3, g4⟩ := hT.r.later hb1 (by omega))
  | (go_at_call 74; refine (compare_rat na nb ao po bo qo la ca lp cp lb cb lq cq a b _ (HX.out.1.later hb1) (HX.out.2.1.later hb1) (HSz.out.1.mono (by decide)) (HSz.out.2.mono (by decide)) 1 HC.out).mono ?_; rintro e w2 ⟨rfl, hb2'⟩; have hb2 := bnext hb1 hb2'; clear hb2'; clear p0 p1 p2 q0 q1 q2 g5 g2 g3 g4; obtain ⟨p0, p1, p2⟩ := hT.a.later hb2 (by omega); obtain ⟨q0, q1, q2⟩ := hT.b.later hb2 (by omega); obtain ⟨g5, g2, g3, g4⟩ := hT.r.later hb2 (by omega)))
 exact bodyPost_ret (v := .tuple #[.agg #[.bool false, .slice none 0 0, .slice none 0 0], .int .i64 23]) (by simp [results, Tryz.results41, go_sem, g2, g3, g4]) rfl
  ⟨rfl, below_store3 (bnext hT.below hb2) (by omega) _ _ _⟩
theorem simple_rat (na nb : Bool) (ao po bo qo : Option Addr) (la ca lp cp lb cb lq cq : Nat) (a b x : Rat) (w : World) (hx : RatAt w na ao la ca po lp cp a) (hy : RatAt w nb bo lb cb qo lq cq b) (ha : Sz a 100) (hb : Sz b 100) (hT0 : TabAt 0 Lib.deBruijn64tab w) (hle : LeQ a b) (hS : SimpQ a b x) :
  Calls Tryz.prog 41 #[.agg #[.bool na, .slice ao la ca, .slice po lp cp], .agg #[.bool nb, .slice bo lb cb, .slice qo lq cq]] w fun e w' => NewRatErr w w' e x := by
 rcases hS with ⟨h0, hS⟩ | ⟨h0, hS⟩ | ⟨h0, h1, rfl⟩
 ·
  exact simple_pos na nb ao po bo qo la ca lp cp lb cb lq cq a b x w hx hy ha hb hT0 hle h0 hS
 ·
  exact simple_neg na nb ao po bo qo la ca lp cp lb cb lq cq a b x w hx hy ha hb hT0 hle h0 hS
 ·
  exact simple_zero na nb ao po bo qo la ca lp cp lb cb lq cq a b w hx hy ha hb hT0 hle h0 h1
theorem simple_bad (na nb : Bool) (ao po bo qo : Option Addr) (la ca lp cp lb cb lq cq : Nat) (x d y f : List Int) (w : World) (hx : RowAt w .u64 ao la ca x) (wx : Wd 18446744073709551616 x) (hd : RowAt w .u64 po lp cp d) (wd : Wd 18446744073709551616 d) (hy : RowAt w .u64 bo lb cb y) (wy : Wd 18446744073709551616 y) (hf : RowAt w .u64 qo lq cq f) (wf : Wd 18446744073709551616 f) (hla : la ≤ 16777216) (hlp : lp ≤ 16777216) (hlb : lb ≤ 16777216) (hlq : lq ≤ 16777216) (hT0 : TabAt 0 Lib.deBruijn64tab w) (hm : (mayR na x d && mayR nb y f) = false) :
  Calls Tryz.prog 41 #[.agg #[.bool na, .slice ao la ca, .slice po lp cp], .agg #[.bool nb, .slice bo lb cb, .slice qo lq cq]] w fun e w' => e = .returned (.tuple #[.agg #[.bool false, .slice none 0 0, .slice none 0 0], .int .i64 20]) ∧ Below w.heap.size w w' := by
 obtain ⟨W, hT⟩ := RTwo3.mk' w na nb ao po bo qo la ca lp cp lb cb lq cq
 have hsz := hT.size
 have hcon := checkBoth_bad na nb ao po bo qo la ca lp cp lb cb lq cq x d y f W (hx.later hT.below) wx (hd.later hT.below) wd (hy.later hT.below) wy (hf.later hT.below) wf hla hlp hlb hlq (tab_later hT0 hT.below) hm
 clear hx hd hy hf wx wd wy wf hT0 hm
 go_enter Tryz.func41, Tryz.ntmps41
 go_wp2_with (go_at_call 73; rw [← hT.eq]; refine hcon.mono ?_; rintro e w1 ⟨rfl, hb1⟩; obtain ⟨g5, g2, g3, g4⟩ := hT.r.later hb1 (by omega))
 exact bodyPost_ret (v := .tuple #[.agg #[.bool false, .slice none 0 0, .slice none 0 0], .int .i64 20]) (by simp [results, Tryz.results41, go_sem, g2, g3, g4]) rfl
  ⟨rfl, below_store3 (bnext hT.below hb1) (by omega) _ _ _⟩
end Go.Proofs.YtiiefpnkpfliiaaGreatDoor
namespace Go.Proofs.YtiiefpnkpfliiaaGreatDoor
open Go.RowKit
def ElemR (w : World) (b o : Nat) : Prop :=
 ∃ (na nb : Bool) (ao po bo qo : Option Addr) (la ca lp cp lb cb lq cq : Nat) (N : Int) (x d y f : List Int),
  (w.cell? ⟨b, o, none⟩ = some (.bool na) ∧ w.cell? ⟨b, o + 1, none⟩ = some (.slice ao la ca) ∧ w.cell? ⟨b, o + 2, none⟩ = some (.slice po lp cp) ∧ w.cell? ⟨b, o + 3, none⟩ = some (.bool nb) ∧ w.cell? ⟨b, o + 4, none⟩ = some (.slice bo lb cb) ∧ w.cell? ⟨b, o + 5, none⟩ = some (.slice qo lq cq) ∧ w.cell? ⟨b, o + 6, none⟩ = some (.int .i64 N)) ∧
  RowAt w .u64 ao la ca x ∧ Wd 18446744073709551616 x ∧ RowAt w .u64 po lp cp d ∧ Wd 18446744073709551616 d ∧ RowAt w .u64 bo lb cb y ∧ Wd 18446744073709551616 y ∧ RowAt w .u64 qo lq cq f ∧ Wd 18446744073709551616 f ∧ -9223372036854775808 ≤ N ∧ N ≤ 9223372036854775807
def ElemsR (w : World) (lo : Option Addr) (n : Nat) : Prop := ∀ i, i < n → ∃ b off, lo = some ⟨b, off, none⟩ ∧ b < w.heap.size ∧ ElemR w b (off + i * 7)
theorem ElemR.later {w w' : World} {b o : Nat} (h : ElemR w b o) (hb : Below w.heap.size w w') (hlt : b < w.heap.size) : ElemR w' b o := by
 obtain ⟨na, nb, ao, po, bo, qo, la, ca, lp, cp, lb, cb, lq, cq, N, x, d, y, f, ⟨h0, h1, h2, h3, h4, h5, h6⟩, r1, w1, r2, w2, r3, w3, r4, w4, hn⟩ := h
 exact ⟨na, nb, ao, po, bo, qo, la, ca, lp, cp, lb, cb, lq, cq, N, x, d, y, f, ⟨(hb.cell (p := ⟨b, o, none⟩) hlt).trans h0, (hb.cell (p := ⟨b, o + 1, none⟩) hlt).trans h1, (hb.cell (p := ⟨b, o + 2, none⟩) hlt).trans h2, (hb.cell (p := ⟨b, o + 3, none⟩) hlt).trans h3, (hb.cell (p := ⟨b, o + 4, none⟩) hlt).trans h4, (hb.cell (p := ⟨b, o + 5, none⟩) hlt).trans h5, (hb.cell (p := ⟨b, o + 6, none⟩) hlt).trans h6⟩, r1.later hb, w1, r2.later hb, w2, r3.later hb, w3, r4.later hb, w4, hn⟩
def Boxed7 (W : World) (r : Nat) (na nb : Bool) (ao po bo qo : Option Addr) (la ca lp cp lb cb lq cq : Nat) (N : Int) : Prop := W.cell? ⟨r, 0, none⟩ = some (.bool na) ∧ W.cell? ⟨r, 1, none⟩ = some (.slice ao la ca) ∧ W.cell? ⟨r, 2, none⟩ = some (.slice po lp cp) ∧ W.cell? ⟨r, 3, none⟩ = some (.bool nb) ∧ W.cell? ⟨r, 4, none⟩ = some (.slice bo lb cb) ∧ W.cell? ⟨r, 5, none⟩ = some (.slice qo lq cq) ∧ W.cell? ⟨r, 6, none⟩ = some (.int .i64 N)
theorem Boxed7.later {W w2 : World} {B r : Nat} {na nb : Bool} {ao po bo qo : Option Addr} {la ca lp cp lb cb lq cq : Nat} {N : Int} (k : Boxed7 W r na nb ao po bo qo la ca lp cp lb cb lq cq N) (h : Below B W w2) (hr : r < B) : Boxed7 w2 r na nb ao po bo qo la ca lp cp lb cb lq cq N :=
 ⟨(h.cell (p := ⟨r, 0, none⟩) hr).trans k.1, (h.cell (p := ⟨r, 1, none⟩) hr).trans k.2.1, (h.cell (p := ⟨r, 2, none⟩) hr).trans k.2.2.1, (h.cell (p := ⟨r, 3, none⟩) hr).trans k.2.2.2.1, (h.cell (p := ⟨r, 4, none⟩) hr).trans k.2.2.2.2.1, (h.cell (p := ⟨r, 5, none⟩) hr).trans k.2.2.2.2.2.1, (h.cell (p := ⟨r, 6, none⟩) hr).trans k.2.2.2.2.2.2⟩
structure InR (w W : World) (na nb : Bool) (ao po bo qo : Option Addr) (la ca lp cp lb cb lq cq : Nat) (N : Int) : Prop where
 eq : W = w.alloc (.cells #[.bool na, .slice ao la ca, .slice po lp cp, .bool nb, .slice bo lb cb, .slice qo lq cq, .int .i64 N] 30)
 below : Below w.heap.size w W
 size : W.heap.size = w.heap.size + 1
 p : Boxed7 W w.heap.size na nb ao po bo qo la ca lp cp lb cb lq cq N
theorem InR.mk' (w : World) (na nb : Bool) (ao po bo qo : Option Addr) (la ca lp cp lb cb lq cq : Nat) (N : Int) : ∃ W, InR w W na nb ao po bo qo la ca lp cp lb cb lq cq N :=
 ⟨_, rfl, (Below.refl _ _).alloc (Nat.le_refl _) _, by simp, ⟨by simp [go_sem], by simp [go_sem], by simp [go_sem], by simp [go_sem], by simp [go_sem], by simp [go_sem], by simp [go_sem]⟩⟩
structure RVar (W : World) (r : Nat) (n : Bool) (o : Option Addr) (l c : Nat) (p : Option Addr) (m d : Nat) (a : Rat) : Prop where
 box : Boxed3 W r n o l c p m d
 rat : RatAt W n o l c p m d a
 lt : r < W.heap.size
theorem RVar.later {W w' : World} {r : Nat} {n : Bool} {o p : Option Addr} {l c m d : Nat} {a : Rat} (h : RVar W r n o l c p m d a) (hb : Below W.heap.size W w') : RVar w' r n o l c p m d a :=
 ⟨h.box.later hb h.lt, h.rat.later hb, Nat.lt_of_lt_of_le h.lt hb.size⟩
theorem RVar.new {W y : World} {n : Bool} {o p : Option Addr} {l c m d : Nat} {a : Rat} (hb : Below W.heap.size W y) (h : RatAt y n o l c p m d a) :
  Hid (RVar (y.alloc (.cells #[.bool n, .slice o l c, .slice p m d] 28)) y.heap.size n o l c p m d a ∧ Below W.heap.size W (y.alloc (.cells #[.bool n, .slice o l c, .slice p m d] 28)) ∧ Below y.heap.size y (y.alloc (.cells #[.bool n, .slice o l c, .slice p m d] 28))) := by
 have h1 : Below y.heap.size y (y.alloc (.cells #[.bool n, .slice o l c, .slice p m d] 28)) := (Below.refl _ _).alloc (Nat.le_refl _) _
 exact ⟨⟨⟨by simp [go_sem], by simp [go_sem], by simp [go_sem]⟩, h.later h1, by simp⟩, below_alloc hb (Nat.le_refl _), h1⟩
theorem num2_any (n : Int) (w : World) : Calls Tryz.prog 9 #[.int .i64 n] w fun e w' => e = .returned (.int .i64 n) ∧ w' = w := by
 go_enter Tryz.func9, Tryz.ntmps9
 go_wp2
 go_ret
 exact ⟨rfl, rfl⟩
def half1 : Rat := ⟨1, 2, by decide, by decide⟩
def third1 : Rat := ⟨-1, 3, by decide, by decide⟩
def sixth1 : Rat := ⟨1, 6, by decide, by decide⟩
theorem half_third : half1 + third1 = sixth1 := by
 obtain ⟨h1, h2⟩ := radd_parts half1 third1 1 (by decide)
 exact Rat.ext (h1.trans (by decide)) (h2.trans (by decide))
theorem sz_half : Sz half1 1 ∧ Sz third1 1 ∧ Sz sixth1 1 := by unfold Sz; decide
theorem wakes2_any (w : World) (hT0 : TabAt 0 Lib.deBruijn64tab w) (hP0 : Pow10 w) : Calls Tryz.prog 32 #[] w fun e w' => e = .returned (.bool true) ∧ Below w.heap.size w w' := by
 have HT : Hid (TabAt 0 Lib.deBruijn64tab w ∧ Pow10 w) := ⟨hT0, hP0⟩
 have hc1 : ∀ X, Below w.heap.size w X → Calls Tryz.prog 78 #[.string ⟨#[49, 47, 50]⟩] X fun e w' => SomeRat X w' e (.int .i64 0) half1 := fun X h => parse_text (sz_half.1.mono (by decide)) _ X (by kernel_rfl) (tab_later HT.out.1 h)
 have hc2 : ∀ X, Below w.heap.size w X → Calls Tryz.prog 78 #[.string ⟨#[45, 49, 47, 51]⟩] X fun e w' => SomeRat X w' e (.int .i64 0) third1 := fun X h => parse_text (sz_half.2.1.mono (by decide)) _ X (by kernel_rfl) (tab_later HT.out.1 h)
 have hc3 : ∀ (na : Bool) (ao po : Option Addr) (la ca lp cp : Nat) (X : World), RatAt X na ao la ca po lp cp sixth1 → Below w.heap.size w X → Calls Tryz.prog 18 #[.agg #[.bool na, .slice ao la ca, .slice po lp cp]] X fun e w' => e = .returned (.string ⟨#[49, 47, 54]⟩) ∧ Below X.heap.size X w' := fun na ao po la ca lp cp X h hb => by
  have h1 := h.len sz_half.2.2
  have := ratText_any na ao po la ca lp cp sixth1 X h (by omega) (by omega) (tab_later HT.out.1 hb) (HT.out.2.later hb)
  rw [show strOfNums (rnums sixth1) = ⟨#[49, 47, 54]⟩ by kernel_rfl] at this
  exact this
 clear hT0 hP0
 go_enter Tryz.func32, Tryz.ntmps32
 go_wp2_with (first
  | (go_at_call 78; have _t := HA1; refine (hc2 _ HA1.out.2.1).mono ?_; rintro e y2 ⟨n2, o2, l2, c2, p2, m2, d2, rfl, hr2, hb2⟩; have HB2 : Hid (RVar y2 y1.heap.size n1 o1 l1 c1 p1 m1 d1 half1 ∧ RatAt y2 n2 o2 l2 c2 p2 m2 d2 third1 ∧ Below w.heap.size w y2) := ⟨HA1.out.1.later hb2, hr2, bnext HA1.out.2.1 hb2⟩; clear hr2 hb2; have HA2 := RVar.new HB2.out.2.2 HB2.out.2.1; obtain ⟨q0, q1, q2⟩ := HB2.out.1.box; have hlt2 := HB2.out.1.lt)
  | (go_at_call 78; refine (hc1 _ (Below.refl _ _)).mono ?_; rintro e y1 ⟨n1, o1, l1, c1, p1, m1, d1, rfl, hr1, hb1⟩; have HA1 := RVar.new hb1 hr1; clear hr1 hb1)
  | (go_at_call 79; refine (add_rat n1 n2 o1 p1 o2 p2 l1 c1 m1 d1 l2 c2 m2 d2 half1 third1 _ ((HB2.out.1.later HA2.out.2.2).rat) HA2.out.1.rat (sz_half.1.mono (by decide)) (sz_half.2.1.mono (by decide)) (tab_later HT.out.1 HA2.out.2.1)).mono ?_; rw [half_third]; rintro e y3 ⟨n3, o3, l3, c3, p3, m3, d3, rfl, hs3, ho3, hp3, _, hb3⟩; have HB3 : Hid (RatAt y3 n3 o3 l3 c3 p3 m3 d3 sixth1 ∧ Below w.heap.size w y3) := ⟨⟨ho3.int hs3, hp3.row⟩, bnext HA2.out.2.1 hb3⟩; clear hs3 ho3 hp3 hb3; have HA3 := RVar.new HB3.out.2 HB3.out.1)
  | (go_at_call 9; refine (num2_any 0 _).mono ?_; rintro e xn ⟨rfl, hxn⟩; replace hxn := hxn.symm; subst hxn)
  | (go_at_call 18; refine (hc3 n3 o3 p3 l3 c3 m3 d3 _ HA3.out.1.rat HA3.out.2.1).mono ?_; rintro e y4 ⟨rfl, hb4⟩; have HB4 : Hid (Below w.heap.size w y4) := bnext HA3.out.2.1 hb4; clear hb4))
 go_ret
 exact ⟨rfl, HB4.out⟩
end Go.Proofs.YtiiefpnkpfliiaaGreatDoor
