/-
  Walks: whole parts; whole numbers as rationals; middles. (gen/rfloor.py)
-/
import Derived.Test.YtiiefpnkpfliiaaGreatDoorRZ
import Derived.Test.YtiiefpnkpfliiaaGreatDoorHI0
namespace Go.Proofs.YtiiefpnkpfliiaaGreatDoor
open Go.RowKit
set_option linter.unusedVariables false
set_option linter.unusedSimpArgs false

theorem mid_lt {a b h : Rat} (hh : h + h = 1) (hab : a < b) : a < (a + b) * h ∧ (a + b) * h < b := by
  have h0 : 0 < h := by grind
  have e1 : a = a * h + a * h := by grind
  have e2 : b = b * h + b * h := by grind
  have l : a * h < b * h := Rat.mul_lt_mul_of_pos_right hab h0
  constructor
  · rw [Rat.add_mul]; rw (occs := [1]) [e1]; grind
  · rw [Rat.add_mul]; rw (occs := [2]) [e2]; grind
theorem floor_cmp (a : Rat) : ((a.num / (a.den : Int) : Int) : Rat) ≤ a ∧ a < ((a.num / (a.den : Int) : Int) : Rat) + 1 := by
  have hd : (0 : Int) < (a.den : Int) := by have := a.den_pos; omega
  have h1 := Int.mul_ediv_add_emod a.num (a.den : Int)
  have h2 := Int.emod_nonneg a.num (b := (a.den : Int)) (by omega)
  have h3 := Int.emod_lt_of_pos a.num hd
  generalize a.num / (a.den : Int) = q at h1 ⊢
  generalize a.num % (a.den : Int) = r at h1 h2 h3
  rw [Int.mul_comm] at h1
  constructor
  · rw [Rat.le_iff]; simp; omega
  · have e : (q : Rat) + 1 = ((q + 1 : Int) : Rat) := by rw [Rat.intCast_add]; rfl
    rw [e, Rat.lt_iff, Rat.num_intCast, Rat.den_intCast, Int.add_mul]; omega
theorem floor_len (a : Rat) : (mag (a.num / (a.den : Int)).natAbs).length ≤ (mag a.num.natAbs).length + 2 := by
  have h : (a.num / (a.den : Int)).natAbs ≤ a.num.natAbs + 1 := by
    rw [Int.natAbs_ediv]
    have := Nat.div_le_self a.num.natAbs (a.den : Int).natAbs
    split <;> omega
  have h1 : (mag 1).length = 1 := by decide
  have h2 := mag_len_add a.num.natAbs 1
  exact Nat.le_trans (mag_len_mono h) (by omega)
set_option maxRecDepth 100000 in
set_option maxHeartbeats 4000000 in
theorem rclone_any (neg : Bool) (ao : Option Addr) (len cap : Nat) (v : Int) (w : World) (hx : IntAt w neg ao len cap v) (hl : len ≤ 1073741824) :
    Calls Tryz.prog 50 #[.agg #[.bool neg, .slice ao len cap]] w fun e w' => NewInt w w' e v := by
  obtain ⟨W, hT⟩ := One2.mk' w neg ao len cap
  have hsz := hT.size
  have HX : Hid (IntAt W neg ao len cap v) := hx.later hT.below
  have KW : Hid (∀ w' : World, Below W.heap.size W w' → w'.cell? ⟨w.heap.size, 0, none⟩ = some (.bool neg) ∧ w'.cell? ⟨w.heap.size, 1, none⟩ = some (.slice ao len cap)) := fun w' h => ⟨(h.cell (p := ⟨w.heap.size, 0, none⟩) (by show w.heap.size < _; omega)).trans hT.a.1, (h.cell (p := ⟨w.heap.size, 1, none⟩) (by show w.heap.size < _; omega)).trans hT.a.2⟩
  have KS : Hid (∀ X : World, Below W.heap.size W X → ∀ x y, (fun w' : World => w'.cell? ⟨w.heap.size, 0, none⟩ = some (.bool neg) ∧ w'.cell? ⟨w.heap.size, 1, none⟩ = some (.slice ao len cap)) ((X.setCell ⟨w.heap.size + 1, 0, none⟩ x).setCell ⟨w.heap.size + 1, 1, none⟩ y)) := fun X h x y => by
    obtain ⟨h1, h2⟩ := KW.out X h
    (try dsimp only)
    rw [cell_off (by omega), cell_off (by omega), cell_off (by omega), cell_off (by omega)]
    exact ⟨h1, h2⟩
  have HF : Hid (Fresh W (w.heap.size + 1) ∧ Below w.heap.size w W) := ⟨hT.r, hT.below⟩
  clear hx
  go_enter Tryz.func50, Tryz.ntmps50
  go_upto_region 1 with fail
  rw [← hT.eq]
  clear hT
  have hzU : W.heap.size ≤ W.drew.heap.size := Nat.le_refl _
  have S0 : Step8 0 := ⟨trivial⟩
  go_region_held3 (fun w' => (w'.cell? ⟨w.heap.size, 0, none⟩ = some (.bool neg) ∧ w'.cell? ⟨w.heap.size, 1, none⟩ = some (.slice ao len cap)))
    (with_reducible (first | exact KS.out _ hbF1 _ _ | exact KW.out _ (Below.refl _ _).drew | exact KW.out _ (by assumption) | (refine KW.out _ ?_; (repeat (first | refine below_alloc ?_ (Nat.le_refl _) | refine Below.drew ?_ | refine below_set ?_ (by omega))); (first | exact hbF1 | exact Below.refl _ _))))
    (first
      | (have _t := S0; go_at_call 58; refine with_held (S := fun w9 => Below W.heap.size W w9) (by show Below _ _ _; with_reducible ((repeat (first | refine below_alloc ?_ (Nat.le_refl _) | refine Below.drew ?_ | refine below_set ?_ (by omega))); (first | exact hbF1 | exact Below.refl _ _))) (fun hS => ?_); refine (cloneNat_any ao len cap v.natAbs _ (HX.out.row.later hS) hl).mono ?_; rintro e f1 ⟨o1, l1, c1, rfl, ho, hb⟩; have H1 : Hid (Own W.heap.size f1 .u64 59 o1 l1 c1 (mag v.natAbs) ∧ Below W.heap.size W f1) := ⟨ho.mono hS.size, bnext hS hb⟩; clear ho; obtain ⟨k5, k2, k3⟩ := HF.out.1.later (bnext hS hb) (by omega); have hbF1 : Below W.heap.size W f1 := bnext hS hb; have hzF1 := hbF1.size; clear hS hb S0; skip))
  all_goals go_wp2
  exact bodyPost_ret (v := .agg #[.bool neg, .slice o1 l1 c1]) (by simp [results, Tryz.results50, go_sem, k2, k3]) rfl
    ⟨_, _, _, _, rfl, HX.out.sg, (H1.out.1.store (by omega) _ _).mono (by omega), below_store (bnext HF.out.2 H1.out.2) (by omega) _ _⟩
/-- a rational handed in, two numbers to come -/
structure RI3 (w W : World) (na : Bool) (ao po : Option Addr) (la ca lp cp : Nat) : Prop where
  eq : W = ((w.alloc (.cells #[.bool na, .slice ao la ca, .slice po lp cp] 28)).alloc (.cells #[.bool false, .slice none 0 0] 26)).alloc (.cells #[.bool false, .slice none 0 0] 26)
  below : Below w.heap.size w W
  size : W.heap.size = w.heap.size + 3
  a : Boxed3 W w.heap.size na ao la ca po lp cp
  r : Fresh W (w.heap.size + 1)
  q : Fresh W (w.heap.size + 1 + 1)
theorem RI3.mk' (w : World) (na : Bool) (ao po : Option Addr) (la ca lp cp : Nat) : ∃ W, RI3 w W na ao po la ca lp cp :=
  ⟨_, rfl, (((Below.refl _ _).alloc (Nat.le_refl _) _).alloc (by simp) _).alloc (by simp; omega) _, by simp, ⟨by simp [go_sem], by simp [go_sem], by simp [go_sem]⟩, ⟨fun j => by simp [go_sem], by simp [go_sem], by simp [go_sem]⟩, ⟨fun j => by simp [go_sem], by simp [go_sem], by simp [go_sem]⟩⟩
/-- a rational handed in, a number to come -/
structure RI2 (w W : World) (na : Bool) (ao po : Option Addr) (la ca lp cp : Nat) : Prop where
  eq : W = (w.alloc (.cells #[.bool na, .slice ao la ca, .slice po lp cp] 28)).alloc (.cells #[.bool false, .slice none 0 0] 26)
  below : Below w.heap.size w W
  size : W.heap.size = w.heap.size + 2
  a : Boxed3 W w.heap.size na ao la ca po lp cp
  r : Fresh W (w.heap.size + 1)
theorem RI2.mk' (w : World) (na : Bool) (ao po : Option Addr) (la ca lp cp : Nat) : ∃ W, RI2 w W na ao po la ca lp cp :=
  ⟨_, rfl, ((Below.refl _ _).alloc (Nat.le_refl _) _).alloc (by simp) _, by simp, ⟨by simp [go_sem], by simp [go_sem], by simp [go_sem]⟩, ⟨fun j => by simp [go_sem], by simp [go_sem], by simp [go_sem]⟩⟩
set_option maxRecDepth 100000 in
set_option maxHeartbeats 4000000 in
theorem floor_rat (na : Bool) (ao po : Option Addr) (la ca lp cp : Nat) (a : Rat) (w : World) (hx : RatAt w na ao la ca po lp cp a) (hl : la ≤ 1073741824) (hl' : lp ≤ 1073741824) :
    Calls Tryz.prog 59 #[.agg #[.bool na, .slice ao la ca, .slice po lp cp]] w fun e w' => ∃ n o l c v', e = .returned (.tuple #[.agg #[.bool n, .slice o l c], v']) ∧ n = sgB (a.num / (a.den : Int)) ∧ Own w.heap.size w' .u64 59 o l c (mag (a.num / (a.den : Int)).natAbs) ∧ Below w.heap.size w w' := by
  obtain ⟨W, hT⟩ := RI3.mk' w na ao po la ca lp cp
  have hsz := hT.size
  have HX : Hid (RatAt W na ao la ca po lp cp a) := hx.later hT.below
  have hd : (a.den : Int) ≠ 0 := by have := a.den_pos; omega
  obtain ⟨p0, p1, p2⟩ := hT.a
  clear hx
  go_enter Tryz.func59, Tryz.ntmps59
  go_upto_region 2 with (go_at_call 102; rw [← hT.eq]; refine (bdivide_any na false ao po la ca lp cp a.num (a.den : Int) _ HX.out.num (row_int HX.out.den) (by omega) (by omega) hd).mono ?_; rintro e y ⟨vq, vr, hfl, n1, o1, l1, c1, n2, o2, l2, c2, rfl, hs1, ho1, hs2, ho2, hb⟩; have HA : Hid (n1 = sgB (a.num / (a.den : Int)) ∧ Own W.heap.size y .u64 59 o1 l1 c1 (mag (a.num / (a.den : Int)).natAbs) ∧ Below W.heap.size W y) := (by have hq := (hfl.pos (by have := a.den_pos; omega)).1; rw [← hq]; exact ⟨hs1, ho1, hb⟩); clear hs1 ho1 hs2 ho2 hfl; obtain ⟨g5, g3, g4⟩ := hT.r.later hb (by omega); obtain ⟨k5, k3, k4⟩ := hT.q.later hb (by omega); clear hb)
  obtain ⟨Q, hQ⟩ : ∃ Q, Q = ((((y.setCell ⟨w.heap.size + 1, 0, none⟩ (.bool n1)).setCell ⟨w.heap.size + 1, 1, none⟩ (.slice o1 l1 c1)).setCell ⟨w.heap.size + 1 + 1, 0, none⟩ (.bool n2)).setCell ⟨w.heap.size + 1 + 1, 1, none⟩ (.slice o2 l2 c2)) := ⟨_, rfl⟩
  have HQ : Hid (Own W.heap.size Q .u64 59 o1 l1 c1 (mag (a.num / (a.den : Int)).natAbs) ∧ Below w.heap.size w Q ∧ Boxed Q (w.heap.size + 1) n1 o1 l1 c1 ∧ Boxed Q (w.heap.size + 1 + 1) n2 o2 l2 c2 ∧ (∀ j, Q.frozen? ⟨w.heap.size + 1, j, none⟩ = false) ∧ (∀ j, Q.frozen? ⟨w.heap.size + 1 + 1, j, none⟩ = false)) := by
    rw [hQ]
    refine ⟨(HA.out.2.1.store (by omega) _ _).store (by omega) _ _, below_store (below_store (bnext hT.below HA.out.2.2) (by omega) _ _) (by omega) _ _, boxed_far (boxed_new ⟨g3, g4⟩) (by omega) _ _, boxed_new (boxed_far ⟨k3, k4⟩ (by omega) _ _), fun j => by rw [frozen_off, frozen_off, frozen_off, frozen_off]; exact g5 j, fun j => by rw [frozen_off, frozen_off, frozen_off, frozen_off]; exact k5 j⟩
  rw [← hQ]
  clear hQ g5 g3 g4 k5 k3 k4 p0 p1 p2
  obtain ⟨g3, g4⟩ := HQ.out.2.2.1
  obtain ⟨k3, k4⟩ := HQ.out.2.2.2.1
  have g5 := HQ.out.2.2.2.2.1
  have k5 := HQ.out.2.2.2.2.2
  go_region
  all_goals go_wp2
  all_goals exact bodyPost_ret (v := .tuple #[.agg #[.bool n1, .slice o1 l1 c1], .agg #[.bool n2, .slice o2 l2 c2]]) (by simp [results, Tryz.results59, go_sem, g3, g4, k3, k4]) rfl ⟨_, _, _, _, _, rfl, HA.out.1, ((HQ.out.1.store (by omega) _ _).store (by omega) _ _).mono (by omega), (below_store (below_store HQ.out.2.1 (by omega) _ _) (by omega) _ _).drew⟩
set_option maxRecDepth 100000 in
set_option maxHeartbeats 4000000 in
theorem rfloor_any (na : Bool) (ao po : Option Addr) (la ca lp cp : Nat) (a : Rat) (w : World) (hx : RatAt w na ao la ca po lp cp a) (hl : la ≤ 1073741824) (hl' : lp ≤ 1073741824) (hT0 : TabAt 0 Lib.deBruijn64tab w) :
    Calls Tryz.prog 17 #[.agg #[.bool na, .slice ao la ca, .slice po lp cp]] w fun e w' => NewInt w w' e (a.num / (a.den : Int)) := by
  obtain ⟨W, hT⟩ := RI2.mk' w na ao po la ca lp cp
  have hsz := hT.size
  have HX : Hid (RatAt W na ao la ca po lp cp a ∧ TabAt 0 Lib.deBruijn64tab W) := ⟨hx.later hT.below, tab_later hT0 hT.below⟩
  clear hx hT0
  go_enter Tryz.func17, Tryz.ntmps17
  go_wp2_with (first
    | (go_at_call 10; rw [← hT.eq]; refine (rcheck_good na ao po la ca lp cp a _ HX.out.1 (by omega) (by omega) HX.out.2).mono ?_; rintro e w1 ⟨rfl, hb1⟩; obtain ⟨p0, p1, p2⟩ := hT.a.later hb1 (by omega))
    | (go_at_call 59; refine (floor_rat na ao po la ca lp cp a _ (HX.out.1.later hb1) (by omega) (by omega)).mono ?_; rintro e w2 ⟨n1, o1, l1, c1, v1, rfl, hs1, ho1, hb2⟩; have HA : Hid (n1 = sgB (a.num / (a.den : Int)) ∧ Own W.heap.size w2 .u64 59 o1 l1 c1 (mag (a.num / (a.den : Int)).natAbs) ∧ Below W.heap.size W w2) := ⟨hs1, ho1.mono hb1.size, bnext hb1 hb2⟩; clear hs1 ho1 hb2 p0 p1 p2; obtain ⟨g5, g3, g4⟩ := hT.r.later HA.out.2.2 (by omega)))
  have hB : Boxed ((((w2.setCell ⟨w.heap.size + 1, 0, none⟩ (.bool n1)).setCell ⟨w.heap.size + 1, 1, none⟩ (.slice o1 l1 c1)).setCell ⟨w.heap.size + 1, 0, none⟩ (.bool n1)).setCell ⟨w.heap.size + 1, 1, none⟩ (.slice o1 l1 c1)) (w.heap.size + 1) n1 o1 l1 c1 := boxed_new (boxed_new ⟨g3, g4⟩)
  exact bodyPost_ret (v := .agg #[.bool n1, .slice o1 l1 c1]) (by simp [results, Tryz.results17, go_sem, hB.1, hB.2]) rfl
    ⟨_, _, _, _, rfl, HA.out.1, ((HA.out.2.1.store (by omega) _ _).store (by omega) _ _).mono (by omega), below_store (below_store (bnext hT.below HA.out.2.2) (by omega) _ _) (by omega) _ _⟩
theorem nw_word {w : World} {n : Nat} {z : Int} (h : mag n = [z]) : Own w.heap.size (w.alloc (.cells #[.int .u64 z] 59)) .u64 59 (some ⟨w.heap.size, 0, none⟩) 1 1 (mag n) := by
  rw [h]; exact Own.whole (Blk.new w .u64 59 [z]) (Nat.le_refl _) rfl
theorem parted_new {w : World} {B : Nat} {o : Option Addr} {l c : Nat} {zs : List Int} (h : Own B w .u64 59 o l c zs) : Parted o (some ⟨w.heap.size, 0, none⟩) := fun p q hp hq e => by
  cases hq
  rcases h with ⟨h1, _⟩ | ⟨g, off, cur, h1, h2, h3, _⟩
  · rw [h1] at hp; cases hp
  · rw [h1] at hp; cases hp
    have := heap_lt h3
    exact absurd e (by show g ≠ w.heap.size; omega)
set_option maxRecDepth 100000 in
set_option maxHeartbeats 4000000 in
theorem rfrom2_any (neg : Bool) (ao : Option Addr) (len cap : Nat) (v : Int) (w : World) (hx : IntAt w neg ao len cap v) (hl : len ≤ 1073741824) :
    Calls Tryz.prog 25 #[.agg #[.bool neg, .slice ao len cap]] w fun e w' => NewRat w w' e (v : Rat) := by
  obtain ⟨W, hT⟩ := IR2.mk' w neg ao len cap
  have hsz := hT.size
  have HX : Hid (IntAt W neg ao len cap v) := hx.later hT.below
  have HM : Hid ((if mayB neg (mag v.natAbs) then 0 else 10 : Int) = 0) := hx.may
  clear hx
  go_enter Tryz.func25, Tryz.ntmps25
  go_wp2_with (first
    | (go_at_call 51; rw [← hT.eq]; refine (check_at neg ao len cap _ _ HX.out.row (by omega) 0 HM.out).mono ?_; rintro e w1 ⟨rfl, hb1⟩; obtain ⟨p0, p1⟩ := hT.a.later hb1 (by omega))
    | (go_at_call 50; refine (rclone_any neg ao len cap v _ (HX.out.later hb1) (by omega)).mono ?_; rintro e w2 ⟨n1, o1, l1, c1, rfl, hs1, ho1, hb2⟩; have hA : Below w2.heap.size w2 (w2.alloc (.cells #[.int .u64 1] 59)) := (Below.refl _ _).alloc (Nat.le_refl _) _; have HA : Hid (n1 = sgB v ∧ Own W.heap.size (w2.alloc (.cells #[.int .u64 1] 59)) .u64 59 o1 l1 c1 (mag v.natAbs) ∧ Below W.heap.size W (w2.alloc (.cells #[.int .u64 1] 59)) ∧ Own W.heap.size (w2.alloc (.cells #[.int .u64 1] 59)) .u64 59 (some ⟨w2.heap.size, 0, none⟩) 1 1 (mag 1) ∧ Parted o1 (some ⟨w2.heap.size, 0, none⟩)) := ⟨hs1, (ho1.later hA).mono hb1.size, bnext (bnext hb1 hb2) hA, (nw_word one_word).mono (bnext hb1 hb2).size, parted_new ho1⟩; clear hs1 ho1 p0 p1; have hz2 := (bnext hb1 hb2).size; clear hb2 hA; obtain ⟨g5, g2, g3, g4⟩ := hT.r.later HA.out.2.2.1 (by omega)))
  exact bodyPost_ret (v := .agg #[.bool n1, .slice o1 l1 c1, .slice (some ⟨w2.heap.size, 0, none⟩) 1 1]) (by simp [results, Tryz.results25, go_sem, g2, g3, g4]) rfl
    ⟨_, _, _, _, _, _, _, rfl, HA.out.1, (HA.out.2.1.store3 (by omega) _ _ _).mono (by omega), (HA.out.2.2.2.1.store3 (by omega) _ _ _).mono (by omega), HA.out.2.2.2.2, below_store3 (bnext hT.below HA.out.2.2.1) (by omega) _ _ _⟩
def half2 : Rat := ⟨1, 2, by decide, by decide⟩
theorem two_word : mag 2 = [2] := by decide
theorem sz_half2 : Sz half2 1 := by unfold Sz; decide
theorem half2_twice : half2 + half2 = 1 := by
  obtain ⟨h1, h2⟩ := radd_parts half2 half2 2 (by decide)
  exact Rat.ext (h1.trans (by decide)) (h2.trans (by decide))
set_option maxRecDepth 100000 in
set_option maxHeartbeats 4000000 in
theorem mid_rat (na nb : Bool) (ao po bo qo : Option Addr) (la ca lp cp lb cb lq cq : Nat) (a b : Rat) (w : World) (hx : RatAt w na ao la ca po lp cp a) (hy : RatAt w nb bo lb cb qo lq cq b) (ha : Sz a 200) (hb : Sz b 200) (hT0 : TabAt 0 Lib.deBruijn64tab w) :
    Calls Tryz.prog 31 #[.agg #[.bool na, .slice ao la ca, .slice po lp cp], .agg #[.bool nb, .slice bo lb cb, .slice qo lq cq]] w fun e w' => NewRat w w' e ((a + b) * half2) := by
  obtain ⟨W, hT⟩ := RTwo3.mk' w na nb ao po bo qo la ca lp cp lb cb lq cq
  have hsz := hT.size
  have HX : Hid (RatAt W na ao la ca po lp cp a ∧ RatAt W nb bo lb cb qo lq cq b ∧ TabAt 0 Lib.deBruijn64tab W) := ⟨hx.later hT.below, hy.later hT.below, tab_later hT0 hT.below⟩
  have hla : la ≤ 200 := (hx.len ha).1
  have hlp : lp ≤ 200 := (hx.len ha).2
  have hlb : lb ≤ 200 := (hy.len hb).1
  have hlq : lq ≤ 200 := (hy.len hb).2
  have HS : Hid (Sz a 1000 ∧ Sz b 1000 ∧ Sz (a + b) 1000) := ⟨ha.mono (by decide), hb.mono (by decide), (ha.add hb).mono (by decide)⟩
  clear hx hy hT0 ha hb
  go_enter Tryz.func31, Tryz.ntmps31
  go_wp2_with (first
    | (go_at_call 73; rw [← hT.eq]; refine (checkBoth_good na nb ao po bo qo la ca lp cp lb cb lq cq a b _ HX.out.1 HX.out.2.1 (by omega) (by omega) (by omega) (by omega) HX.out.2.2).mono ?_; rintro e w1 ⟨rfl, hb1⟩; obtain ⟨p0, p1, p2⟩ := hT.a.later hb1 (by omega); obtain ⟨q0, q1, q2⟩ := hT.b.later hb1 (by omega))
    | (go_at_call 76; refine (sum_rat na nb ao po bo qo la ca lp cp lb cb lq cq a b _ (HX.out.1.later hb1) (HX.out.2.1.later hb1) HS.out.1 HS.out.2.1 (tab_later HX.out.2.2 hb1)).mono ?_; rintro e w2 ⟨n2, o2, l2, c2, o3, l3, c3, rfl, hs, ho, hp, _, hb⟩; have H2 : Hid (RatAt w2 n2 o2 l2 c2 o3 l3 c3 (a + b) ∧ Below W.heap.size W w2) := ⟨⟨ho.int hs, hp.row⟩, bnext hb1 hb⟩; clear hs ho hp hb p0 p1 p2 q0 q1 q2)
    | (go_at_call 77; refine (from_any 1 _ (by decide) (by decide)).mono ?_; rintro e w3 ⟨n4, o4, l4, c4, rfl, hs, ho, hb⟩; have H3 : Hid (RatAt (w3.alloc (.cells #[.int .u64 2] 59)) n2 o2 l2 c2 o3 l3 c3 (a + b) ∧ RatAt (w3.alloc (.cells #[.int .u64 2] 59)) n4 o4 l4 c4 (some ⟨w3.heap.size, 0, none⟩) 1 1 half2 ∧ Below W.heap.size W (w3.alloc (.cells #[.int .u64 2] 59))) := (by have hA : Below w3.heap.size w3 (w3.alloc (.cells #[.int .u64 2] 59)) := (Below.refl _ _).alloc (Nat.le_refl _) _; exact ⟨(H2.out.1.later hb).later hA, ⟨(ho.int hs).later hA, (nw_word two_word).row⟩, bnext (bnext H2.out.2 hb) hA⟩); clear hs ho hb)
    | (go_at_call 75; refine (product_rat n2 n4 o2 o3 o4 (some ⟨w3.heap.size, 0, none⟩) l2 c2 l3 c3 l4 c4 1 1 (a + b) half2 _ H3.out.1 H3.out.2.1 HS.out.2.2 (sz_half2.mono (by decide)) (tab_later HX.out.2.2 H3.out.2.2)).mono ?_; rintro e w5 ⟨n5, o5, l5, c5, p5, m5, k5, rfl, hs, ho, hp, hpt, hb⟩; have HA : Hid (n5 = sgB ((a + b) * half2).num ∧ Own W.heap.size w5 .u64 59 o5 l5 c5 (mag ((a + b) * half2).num.natAbs) ∧ Own W.heap.size w5 .u64 59 p5 m5 k5 (mag ((a + b) * half2).den) ∧ Parted o5 p5 ∧ Below W.heap.size W w5) := ⟨hs, ho.mono H3.out.2.2.size, hp.mono H3.out.2.2.size, hpt, bnext H3.out.2.2 hb⟩; clear hs ho hp hpt hb; obtain ⟨g5, g2, g3, g4⟩ := hT.r.later HA.out.2.2.2.2 (by omega)))
  exact bodyPost_ret (v := .agg #[.bool n5, .slice o5 l5 c5, .slice p5 m5 k5]) (by simp [results, Tryz.results31, go_sem, g2, g3, g4]) rfl
    ⟨_, _, _, _, _, _, _, rfl, HA.out.1, (HA.out.2.1.store3 (by omega) _ _ _).mono (by omega), (HA.out.2.2.1.store3 (by omega) _ _ _).mono (by omega), HA.out.2.2.2.1, below_store3 (bnext hT.below HA.out.2.2.2.2) (by omega) _ _ _⟩
set_option maxRecDepth 100000 in
set_option maxHeartbeats 4000000 in
theorem qint_any (n : Int) (w : World) (h1 : -9223372036854775808 ≤ n) (h2 : n ≤ 9223372036854775807) :
    Calls Tryz.prog 44 #[.int .i64 n] w fun e w' => SomeR w w' e (n : Rat) := by
  obtain ⟨W, hT⟩ := R1.mk' w
  have hsz := hT.size
  go_enter Tryz.func44, Tryz.ntmps44
  go_wp2_with (first
    | (go_at_call 46; rw [← hT.eq]; refine (rfrom_any n _ h1 h2).mono ?_; rintro e w1 ⟨n1, o1, l1, c1, rfl, hs, ho, hb1⟩; have H1 : Hid (IntAt w1 n1 o1 l1 c1 n) := ho.int hs; clear hs ho)
    | (go_at_call 26; refine (qfrom_any n1 o1 l1 c1 _ _ H1.out.row).mono ?_; rintro e w2 ⟨p2, m2, k2, rfl, hr, ho, hb2⟩; have H2 : Hid (RatAt w2 n1 o1 l1 c1 p2 m2 k2 (n : Rat) ∧ Below W.heap.size W w2) := ⟨⟨⟨H1.out.sg, hr⟩, ho.row⟩, bnext hb1 hb2⟩; clear hr ho; obtain ⟨g5, g2, g3, g4⟩ := hT.r.later H2.out.2 (by omega)))
  exact bodyPost_ret (v := .agg #[.bool n1, .slice o1 l1 c1, .slice p2 m2 k2]) (by simp [results, Tryz.results44, go_sem, g2, g3, g4]) rfl
    ⟨_, _, _, _, _, _, _, rfl, rat_kept H2.out.1 ⟨g2, g3, g4⟩, below_store3 (bnext hT.below H2.out.2) (by omega) _ _ _⟩
end Go.Proofs.YtiiefpnkpfliiaaGreatDoor
