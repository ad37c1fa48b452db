/-
  A pack of walks and facts: RU, RVb, HF, RV.
-/
import Derived.Test.YtiiefpnkpfliiaaGreatDoorPC13
import Derived.Test.YtiiefpnkpfliiaaGreatDoorPC15
import Derived.Test.YtiiefpnkpfliiaaGreatDoorPC18
import Derived.ArgAppend
set_option maxRecDepth 100000
set_option maxHeartbeats 40000000
set_option linter.unusedVariables false
set_option linter.unusedSimpArgs false
namespace Go.Proofs.YtiiefpnkpfliiaaGreatDoor
open Go.RowKit
theorem qden_any (na : Bool) (ao po : Option Addr) (la ca lp cp : Nat) (w : World) (hl : lp ≤ 1073741824) :
  Calls Tryz.prog 69 #[.agg #[.bool na, .slice ao la ca, .slice po lp cp]] w fun e w' => e = .returned (.agg #[.bool false, .slice po lp cp]) ∧ Below w.heap.size w w' := by
 obtain ⟨W, hW, hb, hsz, p0, p1, p2, g5, g3, g4⟩ : ∃ W, W = (w.alloc (.cells #[.bool na, .slice ao la ca, .slice po lp cp] 28)).alloc (.cells #[.bool false, .slice none 0 0] 26) ∧ Below w.heap.size w W ∧ W.heap.size = w.heap.size + 2 ∧ W.cell? ⟨w.heap.size, 0, none⟩ = some (.bool na) ∧ W.cell? ⟨w.heap.size, 1, none⟩ = some (.slice ao la ca) ∧ W.cell? ⟨w.heap.size, 2, none⟩ = some (.slice po lp cp) ∧ Fresh W (w.heap.size + 1) :=
  ⟨_, rfl, ((Below.refl _ _).alloc (Nat.le_refl _) _).alloc (by simp) _, by simp, by simp [go_sem], by simp [go_sem], by simp [go_sem], ⟨fun j => by simp [go_sem], by simp [go_sem], by simp [go_sem]⟩⟩
 have HF : Hid (Fresh W (w.heap.size + 1)) := ⟨g5, g3, g4⟩
 have hcon : Calls Tryz.prog 82 #[.bool false, .slice po lp cp] W fun e w' => e = .returned (.agg #[.bool false, .slice po lp cp]) ∧ Below W.heap.size W w' := made_any false po lp cp W (by omega)
 clear p0 p1 p2 g5 g3 g4
 go_enter Tryz.func69, Tryz.ntmps69
 go_wp2_with (go_at_call 82; rw [← hW]; refine hcon.mono ?_; rintro e w1 ⟨rfl, hb1⟩; obtain ⟨g5, g3, g4⟩ := HF.out.later hb1 (by omega))
 exact bodyPost_ret (v := .agg #[.bool false, .slice po lp cp]) (by simp [results, Tryz.results69, go_sem, g3, g4]) rfl
  ⟨rfl, below_store (bnext hb hb1) (by omega) _ _⟩
theorem made_sign {v : Int} {g l : Nat} {na : Bool} (hg : 0 < g) (hd : (g : Int) ∣ v) (hs : na = sgB v) (hl : l = (mag (v / (g : Int)).natAbs).length) : (na && decide (0 < l)) = sgB (v / (g : Int)) := by
 obtain ⟨k, rfl⟩ := hd
 have e : (g : Int) * k / (g : Int) = k := Int.mul_ediv_cancel_left _ (by omega)
 rw [e] at hl ⊢
 subst hs
 unfold sgB
 rcases Int.lt_trichotomy k 0 with h | h | h
 ·
  have h1 : (g : Int) * k < 0 := Int.mul_neg_of_pos_of_neg (by omega) h
  have h2 : 0 < l := by rw [hl]; exact mag_len_pos.2 (by omega)
  rw [decide_eq_true h1, decide_eq_true h2, decide_eq_true h]; rfl
 ·
  subst h; simp
 ·
  have h1 : ¬ (g : Int) * k < 0 := by have := Int.mul_pos (show (0 : Int) < g by omega) h; omega
  rw [decide_eq_false h1, decide_eq_false (show ¬ k < 0 by omega)]; rfl
theorem qmake_any (na : Bool) (ao do' : Option Addr) (la ca ld cd : Nat) (v : Int) (d : Nat) (w : World) (hx : IntAt w na ao la ca v) (hy : RowAt w .u64 do' ld cd (mag d)) (h0 : d ≠ 0) (hl : la ≤ 16777216) (hl' : ld ≤ 16777216) (r : Rat) (hr : r = Rat.normalize v d h0) :
  Calls Tryz.prog 36 #[.agg #[.bool na, .slice ao la ca], .slice do' ld cd] w fun e w' => SomeR w w' e r := by
 obtain ⟨W, hT⟩ := IR2.mk' w na ao la ca
 have hsz := hT.size
 obtain ⟨g, hg⟩ : ∃ g, Nat.gcd v.natAbs d = g := ⟨_, rfl⟩
 have hg0 : 0 < g := by rw [← hg]; exact Nat.gcd_pos_of_pos_right _ (by omega)
 have HD : Hid ((g : Int) ∣ v) := hg ▸ gcd_dvd_abs v d
 have HE : Hid (r.num = v / (g : Int) ∧ r.den = d / g ∧ (v / (g : Int)).natAbs = v.natAbs / g) := by
  have h1 := rmake_parts (n := v) h0
  rw [hg, ← hr] at h1
  exact ⟨h1.1, h1.2, idiv_abs HD.out⟩
 have HX : Hid (IntAt W na ao la ca v ∧ RowAt W .u64 do' ld cd (mag d)) := ⟨hx.later hT.below, hy.later hT.below⟩
 have hgcd : Calls Tryz.prog 48 #[.slice ao la ca, .slice do' ld cd] W fun e w' => ∃ go lg cg, e = .returned (.slice go lg cg) ∧ RowAt w' .u64 go lg cg (mag g) ∧ lg ≤ 16777216 ∧ Below W.heap.size W w' := hg ▸ ngcd_any ao do' la ca ld cd v.natAbs d W HX.out.1.row HX.out.2 hl hl'
 clear hx hy hr hg
 go_enter Tryz.func36, Tryz.ntmps36
 go_wp2_with (first
  | (go_at_call 48; rw [← hT.eq]; refine hgcd.mono ?_; rintro e w1 ⟨go, lg, cg, rfl, hg1, hlg, hb1⟩; obtain ⟨p0, p1⟩ := hT.a.later hb1 (by omega); have H1 : Hid (RowAt w1 .u64 go lg cg (mag g)) := hg1; clear hg1)
  | (go_at_call 81; have _t := H2; refine (ndivide_any do' go ld cd lg cg d g _ (HX.out.2.later hb2) (H2.out.1) hl' hlg hg0).mono ?_; rintro e w3 ⟨ko, lk, ck, ro, lr, cr, rfl, hk3, _, hb3'⟩; have hb3 := bnext hb2 hb3'; have H3 : Hid (RowAt w3 .u64 mo lm cm (mag (v / (g : Int)).natAbs) ∧ RowAt w3 .u64 ko lk ck (mag r.den)) := ⟨H2.out.2.later hb3', (by rw [HE.out.2.1]; exact hk3)⟩; clear hk3 hb3' p0 p1; obtain ⟨p0, p1⟩ := hT.a.later hb3 (by omega))
  | (go_at_call 81; refine (ndivide_any ao go la ca lg cg v.natAbs g _ (HX.out.1.row.later hb1) H1.out hl hlg hg0).mono ?_; rintro e w2 ⟨mo, lm, cm, ro2, lr2, cr2, rfl, hm2, _, hb2'⟩; have hb2 := bnext hb1 hb2'; have H2 : Hid (RowAt w2 .u64 go lg cg (mag g) ∧ RowAt w2 .u64 mo lm cm (mag (v / (g : Int)).natAbs)) := ⟨H1.out.later hb2', (by rw [HE.out.2.2]; exact hm2)⟩; have hlm : lm ≤ 16777216 := (by rw [hm2.hlen]; have q1 := div_len v.natAbs g; have q2 := HX.out.1.row.hlen; omega); clear hm2 hb2' p0 p1; obtain ⟨p0, p1⟩ := hT.a.later hb2 (by omega))
  | (go_at_call 82; refine (made_any na mo lm cm _ (by omega)).mono ?_; rintro e w4 ⟨rfl, hb4'⟩; have H4 : Hid (RowAt w4 .u64 mo lm cm (mag (v / (g : Int)).natAbs) ∧ RowAt w4 .u64 ko lk ck (mag r.den) ∧ Below W.heap.size W w4 ∧ (na && decide (0 < lm)) = sgB (v / (g : Int))) := ⟨H3.out.1.later hb4', H3.out.2.later hb4', bnext hb3 hb4', made_sign hg0 HD.out HX.out.1.sg H3.out.1.hlen⟩; clear hb4' p0 p1; obtain ⟨k5, k2, k3, k4⟩ := hT.r.later H4.out.2.2.1 (by omega); obtain ⟨sg, hsg⟩ : ∃ sg, (na && decide (0 < lm)) = sg := ⟨_, rfl⟩; have HSG : Hid (sg = sgB (v / (g : Int))) := hsg.symm.trans H4.out.2.2.2; rw [hsg]; clear hsg))
 exact bodyPost_ret (v := .agg #[.bool sg, .slice mo lm cm, .slice ko lk ck]) (by simp [results, Tryz.results36, go_sem, k2, k3, k4]) rfl
  ⟨_, _, _, _, _, _, _, rfl, rat_kept ⟨⟨by rw [HE.out.1]; exact HSG.out, by rw [HE.out.1]; exact H4.out.1⟩, H4.out.2.1⟩ ⟨k2, k3, k4⟩, below_store3 (bnext hT.below H4.out.2.2.1) (by omega) _ _ _⟩
theorem qneg_any (na : Bool) (ao po : Option Addr) (la ca lp cp : Nat) (a : Rat) (w : World) (hx : RatAt w na ao la ca po lp cp a) (hl : la ≤ 1073741824) :
  Calls Tryz.prog 22 #[.agg #[.bool na, .slice ao la ca, .slice po lp cp]] w fun e w' => SomeR w w' e (-a) := by
 obtain ⟨W, hT⟩ := ROne2.mk' w na ao po la ca lp cp
 have hsz := hT.size
 have HX : Hid (RatAt W na ao la ca po lp cp a) := hx.later hT.below
 have KW : Hid (∀ w' : World, Below W.heap.size W w' → w'.cell? ⟨w.heap.size, 0, none⟩ = some (.bool na) ∧ w'.cell? ⟨w.heap.size, 1, none⟩ = some (.slice ao la ca) ∧ w'.cell? ⟨w.heap.size, 2, none⟩ = some (.slice po lp cp)) := fun w' h => ⟨(h.cell (p := ⟨w.heap.size, 0, none⟩) (by show w.heap.size < _; omega)).trans hT.a.1, (h.cell (p := ⟨w.heap.size, 1, none⟩) (by show w.heap.size < _; omega)).trans hT.a.2.1, (h.cell (p := ⟨w.heap.size, 2, none⟩) (by show w.heap.size < _; omega)).trans hT.a.2.2⟩
 have KS : Hid (∀ X : World, Below W.heap.size W X → ∀ x y z, (fun w' : World => w'.cell? ⟨w.heap.size, 0, none⟩ = some (.bool na) ∧ w'.cell? ⟨w.heap.size, 1, none⟩ = some (.slice ao la ca) ∧ w'.cell? ⟨w.heap.size, 2, none⟩ = some (.slice po lp cp)) (((X.setCell ⟨w.heap.size + 1, 0, none⟩ x).setCell ⟨w.heap.size + 1, 1, none⟩ y).setCell ⟨w.heap.size + 1, 2, none⟩ z)) := fun X h x y z => by
  obtain ⟨h0, h1, h2⟩ := KW.out X h
  (try dsimp only)
  rw [cell_off (by omega), cell_off (by omega), cell_off (by omega), cell_off (by omega), cell_off (by omega), cell_off (by omega), cell_off (by omega), cell_off (by omega), cell_off (by omega)]
  exact ⟨h0, h1, h2⟩
 have HF : Hid (Fresh3 W (w.heap.size + 1) ∧ Below w.heap.size w W) := ⟨hT.r, hT.below⟩
 clear hx
 go_enter Tryz.func22, Tryz.ntmps22
 go_upto_region 1 with fail
 rw [← hT.eq]
 clear hT
 have hzU : W.heap.size ≤ W.drew.heap.size := Nat.le_refl _
 have S0 : Step8 0 := ⟨trivial⟩
 go_region_held3 (fun w' => (w'.cell? ⟨w.heap.size, 0, none⟩ = some (.bool na) ∧ w'.cell? ⟨w.heap.size, 1, none⟩ = some (.slice ao la ca) ∧ w'.cell? ⟨w.heap.size, 2, none⟩ = some (.slice po lp cp)))
  (with_reducible (first | exact KS.out _ hbF1 _ _ _ | exact KW.out _ (Below.refl _ _).drew | exact KW.out _ (by assumption) | (refine KW.out _ ?_; (repeat (first | refine below_alloc ?_ (Nat.le_refl _) | refine Below.drew ?_ | refine below_set ?_ (by omega))); (first | exact hbF1 | exact Below.refl _ _))))
  (first
   | (have _t := S0; go_at_call 66; refine with_held (S := fun w9 => Below W.heap.size W w9) (by show Below _ _ _; with_reducible ((repeat (first | refine below_alloc ?_ (Nat.le_refl _) | refine Below.drew ?_ | refine below_set ?_ (by omega))); (first | exact hbF1 | exact Below.refl _ _))) (fun hS => ?_); refine (rneg_any na ao la ca a.num _ (HX.out.num.later hS) (by omega)).mono ?_; rintro e f1 ⟨n1, o1, l1, c1, rfl, hi, hb⟩; have H1 : Hid (RatAt f1 n1 o1 l1 c1 po lp cp (-a) ∧ Below W.heap.size W f1) := ⟨⟨(by rw [Rat.neg_num]; exact hi), (by rw [Rat.neg_den]; exact (HX.out.den.later hS).later hb)⟩, bnext hS hb⟩; clear hi; obtain ⟨k5, k2, k3, k4⟩ := HF.out.1.later (bnext hS hb) (by omega); have hbF1 : Below W.heap.size W f1 := bnext hS hb; have hzF1 := hbF1.size; clear hS hb S0; skip))
 all_goals go_wp2
 exact bodyPost_ret (v := .agg #[.bool n1, .slice o1 l1 c1, .slice po lp cp]) (by simp [results, Tryz.results22, go_sem, k2, k3, k4]) rfl
  ⟨_, _, _, _, _, _, _, rfl, rat_kept H1.out.1 ⟨k2, k3, k4⟩, below_store3 (bnext HF.out.2 H1.out.2) (by omega) _ _ _⟩
theorem qplus_any (na nb : Bool) (ao po bo qo : Option Addr) (la ca lp cp lb cb lq cq : Nat) (a b : Rat) (w : World) (hx : RatAt w na ao la ca po lp cp a) (hy : RatAt w nb bo lb cb qo lq cq b) (ha : Sz a 1000) (hb : Sz b 1000) :
  Calls Tryz.prog 72 #[.agg #[.bool na, .slice ao la ca, .slice po lp cp], .agg #[.bool nb, .slice bo lb cb, .slice qo lq cq]] w fun e w' => SomeR w w' e (a + b) := by
 obtain ⟨W, hT⟩ := RTwo3.mk' w na nb ao po bo qo la ca lp cp lb cb lq cq
 have hsz := hT.size
 have HX : Hid (RatAt W na ao la ca po lp cp a ∧ RatAt W nb bo lb cb qo lq cq b) := ⟨hx.later hT.below, hy.later hT.below⟩
 have hla : la ≤ 1000 := (hx.len ha).1
 have hlp : lp ≤ 1000 := (hx.len ha).2
 have hlb : lb ≤ 1000 := (hy.len hb).1
 have hlq : lq ≤ 1000 := (hy.len hb).2
 have HS : Hid (Sz a 1000 ∧ Sz b 1000) := ⟨ha, hb⟩
 have KW : Hid (∀ w' : World, Below W.heap.size W w' → w'.cell? ⟨w.heap.size, 0, none⟩ = some (.bool na) ∧ w'.cell? ⟨w.heap.size, 1, none⟩ = some (.slice ao la ca) ∧ w'.cell? ⟨w.heap.size, 2, none⟩ = some (.slice po lp cp) ∧ w'.cell? ⟨w.heap.size + 1, 0, none⟩ = some (.bool nb) ∧ w'.cell? ⟨w.heap.size + 1, 1, none⟩ = some (.slice bo lb cb) ∧ w'.cell? ⟨w.heap.size + 1, 2, none⟩ = some (.slice qo lq cq)) := fun w' h => ⟨(h.cell (p := ⟨w.heap.size, 0, none⟩) (by show w.heap.size < _; omega)).trans hT.a.1, (h.cell (p := ⟨w.heap.size, 1, none⟩) (by show w.heap.size < _; omega)).trans hT.a.2.1, (h.cell (p := ⟨w.heap.size, 2, none⟩) (by show w.heap.size < _; omega)).trans hT.a.2.2, (h.cell (p := ⟨w.heap.size + 1, 0, none⟩) (by show w.heap.size + 1 < _; omega)).trans hT.b.1, (h.cell (p := ⟨w.heap.size + 1, 1, none⟩) (by show w.heap.size + 1 < _; omega)).trans hT.b.2.1, (h.cell (p := ⟨w.heap.size + 1, 2, none⟩) (by show w.heap.size + 1 < _; omega)).trans hT.b.2.2⟩
 have KS : Hid (∀ X : World, Below W.heap.size W X → ∀ x y z, (fun w' : World => w'.cell? ⟨w.heap.size, 0, none⟩ = some (.bool na) ∧ w'.cell? ⟨w.heap.size, 1, none⟩ = some (.slice ao la ca) ∧ w'.cell? ⟨w.heap.size, 2, none⟩ = some (.slice po lp cp) ∧ w'.cell? ⟨w.heap.size + 1, 0, none⟩ = some (.bool nb) ∧ w'.cell? ⟨w.heap.size + 1, 1, none⟩ = some (.slice bo lb cb) ∧ w'.cell? ⟨w.heap.size + 1, 2, none⟩ = some (.slice qo lq cq)) (((X.setCell ⟨w.heap.size + 1 + 1, 0, none⟩ x).setCell ⟨w.heap.size + 1 + 1, 1, none⟩ y).setCell ⟨w.heap.size + 1 + 1, 2, none⟩ z)) := fun X h x y z => by
  obtain ⟨h0, h1, h2, h3, h4, h5⟩ := KW.out X h
  (try dsimp only)
  rw [cell_off (by omega), cell_off (by omega), cell_off (by omega), cell_off (by omega), cell_off (by omega), cell_off (by omega), cell_off (by omega), cell_off (by omega), cell_off (by omega), cell_off (by omega), cell_off (by omega), cell_off (by omega), cell_off (by omega), cell_off (by omega), cell_off (by omega), cell_off (by omega), cell_off (by omega), cell_off (by omega)]
  exact ⟨h0, h1, h2, h3, h4, h5⟩
 have HF : Hid (Fresh3 W (w.heap.size + 1 + 1) ∧ Below w.heap.size w W) := ⟨hT.r, hT.below⟩
 have HL : Hid ((mag (a.num * (b.den : Int)).natAbs).length ≤ 3000 ∧ (mag (b.num * (a.den : Int)).natAbs).length ≤ 3000 ∧ (mag (a.num * (b.den : Int) + b.num * (a.den : Int)).natAbs).length ≤ 7000 ∧ (mag (a.den * b.den)).length ≤ 3000 ∧ (mag (a.num * b.num).natAbs).length ≤ 3000) := by
  have h1 := add_len (a.num * (b.den : Int)) (b.num * (a.den : Int))
  have h2 := mul_len a.num (b.den : Int)
  have h3 := mul_len b.num (a.den : Int)
  have h4 := mag_len_mul a.den b.den
  have h5 := mul_len a.num b.num
  rw [Int.natAbs_natCast] at h2 h3
  have := ha.1; have := ha.2; have := hb.1; have := hb.2
  refine ⟨?_, ?_, ?_, ?_, ?_⟩ <;> omega
 have h0 : a.den * b.den ≠ 0 := Nat.mul_ne_zero a.den_nz b.den_nz
 clear hx hy ha hb
 go_enter Tryz.func72, Tryz.ntmps72
 go_upto_region 1 with fail
 rw [← hT.eq]
 clear hT
 have hzU : W.heap.size ≤ W.drew.heap.size := Nat.le_refl _
 have S0 : Step8 0 := ⟨trivial⟩
 go_region_held3 (fun w' => (w'.cell? ⟨w.heap.size, 0, none⟩ = some (.bool na) ∧ w'.cell? ⟨w.heap.size, 1, none⟩ = some (.slice ao la ca) ∧ w'.cell? ⟨w.heap.size, 2, none⟩ = some (.slice po lp cp) ∧ w'.cell? ⟨w.heap.size + 1, 0, none⟩ = some (.bool nb) ∧ w'.cell? ⟨w.heap.size + 1, 1, none⟩ = some (.slice bo lb cb) ∧ w'.cell? ⟨w.heap.size + 1, 2, none⟩ = some (.slice qo lq cq)))
  (with_reducible (first | exact KS.out _ hbF7 _ _ _ | exact KW.out _ (Below.refl _ _).drew | exact KW.out _ (by assumption) | (refine KW.out _ ?_; (repeat (first | refine below_alloc ?_ (Nat.le_refl _) | refine Below.drew ?_ | refine below_set ?_ (by omega))); (first | exact hbF7 | exact hbF6 | exact hbF5 | exact hbF4 | exact hbF3 | exact hbF2 | exact hbF1 | exact Below.refl _ _))))
  (first
   | (have _t := S0; go_at_call 69; refine with_held (S := fun w9 => Below W.heap.size W w9) (by show Below _ _ _; with_reducible ((repeat (first | refine below_alloc ?_ (Nat.le_refl _) | refine Below.drew ?_ | refine below_set ?_ (by omega))); (first | exact hbF7 | exact hbF6 | exact hbF5 | exact hbF4 | exact hbF3 | exact hbF2 | exact hbF1 | exact Below.refl _ _))) (fun hS => ?_); refine (qden_any nb bo qo lb cb lq cq _ (by omega)).mono ?_; rintro e f1 ⟨rfl, hb⟩; skip; have hbF1 : Below W.heap.size W f1 := bnext hS hb; have hzF1 := hbF1.size; clear hS hb S0; have S1 : Step8 1 := ⟨trivial⟩)
   | (have _t := S1; go_at_call 71; refine with_held (S := fun w9 => Below W.heap.size W w9) (by show Below _ _ _; with_reducible ((repeat (first | refine below_alloc ?_ (Nat.le_refl _) | refine Below.drew ?_ | refine below_set ?_ (by omega))); (first | exact hbF7 | exact hbF6 | exact hbF5 | exact hbF4 | exact hbF3 | exact hbF2 | exact hbF1 | exact Below.refl _ _))) (fun hS => ?_); refine with_held (S := fun w9 => Below f1.heap.size f1 w9) (by show Below _ _ _; with_reducible ((repeat (refine below_alloc ?_ (Nat.le_refl _))); exact Below.refl _ _)) (fun hS2 => ?_); refine (rtimes_any na false ao qo la ca lq cq a.num (b.den : Int) _ (HX.out.1.num.later hS) (row_int (HX.out.2.den.later hS)) (by omega) (by omega)).mono ?_; rintro e f2 ⟨n1, o1, l1, c1, rfl, hs, ho, hb⟩; have H2 : Hid (IntAt f2 n1 o1 l1 c1 (a.num * (b.den : Int))) := ho.int hs; have hl1 : l1 ≤ 3000 := (by rw [ho.row.hlen]; exact HL.out.1); clear hs ho; have hbF2 : Below W.heap.size W f2 := bnext hS hb; have hzF2 := hbF2.size; clear hS hb S1; clear hS2; have S2 : Step8 2 := ⟨trivial⟩)
   | (have _t := S2; go_at_call 69; refine with_held (S := fun w9 => Below W.heap.size W w9) (by show Below _ _ _; with_reducible ((repeat (first | refine below_alloc ?_ (Nat.le_refl _) | refine Below.drew ?_ | refine below_set ?_ (by omega))); (first | exact hbF7 | exact hbF6 | exact hbF5 | exact hbF4 | exact hbF3 | exact hbF2 | exact hbF1 | exact Below.refl _ _))) (fun hS => ?_); refine with_held (S := fun w9 => Below f2.heap.size f2 w9) (by show Below _ _ _; with_reducible ((repeat (refine below_alloc ?_ (Nat.le_refl _))); exact Below.refl _ _)) (fun hS2 => ?_); refine (qden_any na ao po la ca lp cp _ (by omega)).mono ?_; rintro e f3 ⟨rfl, hb⟩; have H3 : Hid (IntAt f3 n1 o1 l1 c1 (a.num * (b.den : Int))) := H2.out.later (bnext hS2 hb); have hbF3 : Below W.heap.size W f3 := bnext hS hb; have hzF3 := hbF3.size; clear hS hb S2; clear hS2; have S3 : Step8 3 := ⟨trivial⟩)
   | (have _t := S3; go_at_call 71; refine with_held (S := fun w9 => Below W.heap.size W w9) (by show Below _ _ _; with_reducible ((repeat (first | refine below_alloc ?_ (Nat.le_refl _) | refine Below.drew ?_ | refine below_set ?_ (by omega))); (first | exact hbF7 | exact hbF6 | exact hbF5 | exact hbF4 | exact hbF3 | exact hbF2 | exact hbF1 | exact Below.refl _ _))) (fun hS => ?_); refine with_held (S := fun w9 => Below f3.heap.size f3 w9) (by show Below _ _ _; with_reducible ((repeat (refine below_alloc ?_ (Nat.le_refl _))); exact Below.refl _ _)) (fun hS2 => ?_); refine (rtimes_any nb false bo po lb cb lp cp b.num (a.den : Int) _ (HX.out.2.num.later hS) (row_int (HX.out.1.den.later hS)) (by omega) (by omega)).mono ?_; rintro e f4 ⟨n2, o2, l2, c2, rfl, hs, ho, hb⟩; have H4 : Hid (IntAt f4 n1 o1 l1 c1 (a.num * (b.den : Int)) ∧ IntAt f4 n2 o2 l2 c2 (b.num * (a.den : Int))) := ⟨H3.out.later (bnext hS2 hb), ho.int hs⟩; have hl2 : l2 ≤ 3000 := (by rw [ho.row.hlen]; exact HL.out.2.1); clear hs ho; have hbF4 : Below W.heap.size W f4 := bnext hS hb; have hzF4 := hbF4.size; clear hS hb S3; clear hS2; have S4 : Step8 4 := ⟨trivial⟩)
   | (have _t := S4; go_at_call 45; refine with_held (S := fun w9 => Below W.heap.size W w9) (by show Below _ _ _; with_reducible ((repeat (first | refine below_alloc ?_ (Nat.le_refl _) | refine Below.drew ?_ | refine below_set ?_ (by omega))); (first | exact hbF7 | exact hbF6 | exact hbF5 | exact hbF4 | exact hbF3 | exact hbF2 | exact hbF1 | exact Below.refl _ _))) (fun hS => ?_); refine with_held (S := fun w9 => Below f4.heap.size f4 w9) (by show Below _ _ _; with_reducible ((repeat (refine below_alloc ?_ (Nat.le_refl _))); exact Below.refl _ _)) (fun hS2 => ?_); refine (rplus_any n1 n2 o1 o2 l1 c1 l2 c2 _ _ _ (H4.out.1.later hS2) (H4.out.2.later hS2) (by omega) (by omega)).mono ?_; rintro e f5 ⟨n3, o3, l3, c3, rfl, hi, hb⟩; have H5 : Hid (IntAt f5 n3 o3 l3 c3 (a.num * (b.den : Int) + b.num * (a.den : Int))) := hi; have hl3 : l3 ≤ 7000 := (by rw [hi.row.hlen]; exact HL.out.2.2.1); clear hi; have hbF5 : Below W.heap.size W f5 := bnext hS hb; have hzF5 := hbF5.size; clear hS hb S4; clear hS2; have S5 : Step8 5 := ⟨trivial⟩)
   | (have _t := S5; go_at_call 90; refine with_held (S := fun w9 => Below W.heap.size W w9) (by show Below _ _ _; with_reducible ((repeat (first | refine below_alloc ?_ (Nat.le_refl _) | refine Below.drew ?_ | refine below_set ?_ (by omega))); (first | exact hbF7 | exact hbF6 | exact hbF5 | exact hbF4 | exact hbF3 | exact hbF2 | exact hbF1 | exact Below.refl _ _))) (fun hS => ?_); refine with_held (S := fun w9 => Below f5.heap.size f5 w9) (by show Below _ _ _; with_reducible ((repeat (refine below_alloc ?_ (Nat.le_refl _))); exact Below.refl _ _)) (fun hS2 => ?_); refine (ntimes_any po qo lp cp lq cq a.den b.den _ (HX.out.1.den.later hS) (HX.out.2.den.later hS) (by omega) (by omega)).mono ?_; rintro e f6 ⟨o4, l4, c4, rfl, ho, hb⟩; have H6 : Hid (IntAt f6 n3 o3 l3 c3 (a.num * (b.den : Int) + b.num * (a.den : Int)) ∧ RowAt f6 .u64 o4 l4 c4 (mag (a.den * b.den))) := ⟨H5.out.later (bnext hS2 hb), ho.row⟩; have hl4 : l4 ≤ 3000 := (by rw [ho.row.hlen]; exact HL.out.2.2.2.1); clear ho; have hbF6 : Below W.heap.size W f6 := bnext hS hb; have hzF6 := hbF6.size; clear hS hb S5; clear hS2; have S6 : Step8 6 := ⟨trivial⟩)
   | (have _t := S6; go_at_call 36; refine with_held (S := fun w9 => Below W.heap.size W w9) (by show Below _ _ _; with_reducible ((repeat (first | refine below_alloc ?_ (Nat.le_refl _) | refine Below.drew ?_ | refine below_set ?_ (by omega))); (first | exact hbF7 | exact hbF6 | exact hbF5 | exact hbF4 | exact hbF3 | exact hbF2 | exact hbF1 | exact Below.refl _ _))) (fun hS => ?_); refine with_held (S := fun w9 => Below f6.heap.size f6 w9) (by show Below _ _ _; with_reducible ((repeat (refine below_alloc ?_ (Nat.le_refl _))); exact Below.refl _ _)) (fun hS2 => ?_); refine (qmake_any n3 o3 o4 l3 c3 l4 c4 (a.num * (b.den : Int) + b.num * (a.den : Int)) (a.den * b.den) _ (H6.out.1.later hS2) (H6.out.2.later hS2) h0 (by omega) (by omega) (a + b) (Rat.add_def a b)).mono ?_; rintro e f7 ⟨nz, oz, lz, cz, pz, mz, dz, rfl, hz, hb⟩; have HZ : Hid (RatAt f7 nz oz lz cz pz mz dz _ ∧ Below W.heap.size W f7) := ⟨hz, bnext hS hb⟩; clear hz; obtain ⟨k5, k2, k3, k4⟩ := HF.out.1.later (bnext hS hb) (by omega); have hbF7 : Below W.heap.size W f7 := bnext hS hb; have hzF7 := hbF7.size; clear hS hb S6; clear hS2; skip))
 all_goals go_wp2
 exact bodyPost_ret (v := .agg #[.bool nz, .slice oz lz cz, .slice pz mz dz]) (by simp [results, Tryz.results72, go_sem, k2, k3, k4]) rfl
  ⟨_, _, _, _, _, _, _, rfl, rat_kept HZ.out.1 ⟨k2, k3, k4⟩, below_store3 (bnext HF.out.2 HZ.out.2) (by omega) _ _ _⟩
theorem qless_any (na nb : Bool) (ao po bo qo : Option Addr) (la ca lp cp lb cb lq cq : Nat) (a b : Rat) (w : World) (hx : RatAt w na ao la ca po lp cp a) (hy : RatAt w nb bo lb cb qo lq cq b) (ha : Sz a 1000) (hb : Sz b 1000) :
  Calls Tryz.prog 89 #[.agg #[.bool na, .slice ao la ca, .slice po lp cp], .agg #[.bool nb, .slice bo lb cb, .slice qo lq cq]] w fun e w' => SomeR w w' e (a - b) := by
 obtain ⟨W, hT⟩ := RTwo3.mk' w na nb ao po bo qo la ca lp cp lb cb lq cq
 have hsz := hT.size
 have HX : Hid (RatAt W na ao la ca po lp cp a ∧ RatAt W nb bo lb cb qo lq cq b) := ⟨hx.later hT.below, hy.later hT.below⟩
 have hla : la ≤ 1000 := (hx.len ha).1
 have hlp : lp ≤ 1000 := (hx.len ha).2
 have hlb : lb ≤ 1000 := (hy.len hb).1
 have hlq : lq ≤ 1000 := (hy.len hb).2
 have HS : Hid (Sz a 1000 ∧ Sz b 1000) := ⟨ha, hb⟩
 have KW : Hid (∀ w' : World, Below W.heap.size W w' → w'.cell? ⟨w.heap.size, 0, none⟩ = some (.bool na) ∧ w'.cell? ⟨w.heap.size, 1, none⟩ = some (.slice ao la ca) ∧ w'.cell? ⟨w.heap.size, 2, none⟩ = some (.slice po lp cp) ∧ w'.cell? ⟨w.heap.size + 1, 0, none⟩ = some (.bool nb) ∧ w'.cell? ⟨w.heap.size + 1, 1, none⟩ = some (.slice bo lb cb) ∧ w'.cell? ⟨w.heap.size + 1, 2, none⟩ = some (.slice qo lq cq)) := fun w' h => ⟨(h.cell (p := ⟨w.heap.size, 0, none⟩) (by show w.heap.size < _; omega)).trans hT.a.1, (h.cell (p := ⟨w.heap.size, 1, none⟩) (by show w.heap.size < _; omega)).trans hT.a.2.1, (h.cell (p := ⟨w.heap.size, 2, none⟩) (by show w.heap.size < _; omega)).trans hT.a.2.2, (h.cell (p := ⟨w.heap.size + 1, 0, none⟩) (by show w.heap.size + 1 < _; omega)).trans hT.b.1, (h.cell (p := ⟨w.heap.size + 1, 1, none⟩) (by show w.heap.size + 1 < _; omega)).trans hT.b.2.1, (h.cell (p := ⟨w.heap.size + 1, 2, none⟩) (by show w.heap.size + 1 < _; omega)).trans hT.b.2.2⟩
 have KS : Hid (∀ X : World, Below W.heap.size W X → ∀ x y z, (fun w' : World => w'.cell? ⟨w.heap.size, 0, none⟩ = some (.bool na) ∧ w'.cell? ⟨w.heap.size, 1, none⟩ = some (.slice ao la ca) ∧ w'.cell? ⟨w.heap.size, 2, none⟩ = some (.slice po lp cp) ∧ w'.cell? ⟨w.heap.size + 1, 0, none⟩ = some (.bool nb) ∧ w'.cell? ⟨w.heap.size + 1, 1, none⟩ = some (.slice bo lb cb) ∧ w'.cell? ⟨w.heap.size + 1, 2, none⟩ = some (.slice qo lq cq)) (((X.setCell ⟨w.heap.size + 1 + 1, 0, none⟩ x).setCell ⟨w.heap.size + 1 + 1, 1, none⟩ y).setCell ⟨w.heap.size + 1 + 1, 2, none⟩ z)) := fun X h x y z => by
  obtain ⟨h0, h1, h2, h3, h4, h5⟩ := KW.out X h
  (try dsimp only)
  rw [cell_off (by omega), cell_off (by omega), cell_off (by omega), cell_off (by omega), cell_off (by omega), cell_off (by omega), cell_off (by omega), cell_off (by omega), cell_off (by omega), cell_off (by omega), cell_off (by omega), cell_off (by omega), cell_off (by omega), cell_off (by omega), cell_off (by omega), cell_off (by omega), cell_off (by omega), cell_off (by omega)]
  exact ⟨h0, h1, h2, h3, h4, h5⟩
 have HF : Hid (Fresh3 W (w.heap.size + 1 + 1) ∧ Below w.heap.size w W) := ⟨hT.r, hT.below⟩
 clear hx hy ha hb
 go_enter Tryz.func89, Tryz.ntmps89
 go_upto_region 1 with fail
 rw [← hT.eq]
 clear hT
 have hzU : W.heap.size ≤ W.drew.heap.size := Nat.le_refl _
 have S0 : Step8 0 := ⟨trivial⟩
 go_region_held3 (fun w' => (w'.cell? ⟨w.heap.size, 0, none⟩ = some (.bool na) ∧ w'.cell? ⟨w.heap.size, 1, none⟩ = some (.slice ao la ca) ∧ w'.cell? ⟨w.heap.size, 2, none⟩ = some (.slice po lp cp) ∧ w'.cell? ⟨w.heap.size + 1, 0, none⟩ = some (.bool nb) ∧ w'.cell? ⟨w.heap.size + 1, 1, none⟩ = some (.slice bo lb cb) ∧ w'.cell? ⟨w.heap.size + 1, 2, none⟩ = some (.slice qo lq cq)))
  (with_reducible (first | exact KS.out _ hbF2 _ _ _ | exact KW.out _ (Below.refl _ _).drew | exact KW.out _ (by assumption) | (refine KW.out _ ?_; (repeat (first | refine below_alloc ?_ (Nat.le_refl _) | refine Below.drew ?_ | refine below_set ?_ (by omega))); (first | exact hbF2 | exact hbF1 | exact Below.refl _ _))))
  (first
   | (have _t := S0; go_at_call 22; refine with_held (S := fun w9 => Below W.heap.size W w9) (by show Below _ _ _; with_reducible ((repeat (first | refine below_alloc ?_ (Nat.le_refl _) | refine Below.drew ?_ | refine below_set ?_ (by omega))); (first | exact hbF2 | exact hbF1 | exact Below.refl _ _))) (fun hS => ?_); refine (qneg_any nb bo qo lb cb lq cq b _ (HX.out.2.later hS) (by omega)).mono ?_; rintro e f1 ⟨n1, o1, l1, c1, p1, m1, d1, rfl, hr, hb⟩; have H1 : Hid (RatAt f1 n1 o1 l1 c1 p1 m1 d1 (-b)) := hr; clear hr; have hbF1 : Below W.heap.size W f1 := bnext hS hb; have hzF1 := hbF1.size; clear hS hb S0; have S1 : Step8 1 := ⟨trivial⟩)
   | (have _t := S1; go_at_call 72; refine with_held (S := fun w9 => Below W.heap.size W w9) (by show Below _ _ _; with_reducible ((repeat (first | refine below_alloc ?_ (Nat.le_refl _) | refine Below.drew ?_ | refine below_set ?_ (by omega))); (first | exact hbF2 | exact hbF1 | exact Below.refl _ _))) (fun hS => ?_); refine with_held (S := fun w9 => Below f1.heap.size f1 w9) (by show Below _ _ _; with_reducible ((repeat (refine below_alloc ?_ (Nat.le_refl _))); exact Below.refl _ _)) (fun hS2 => ?_); refine (qplus_any na n1 ao po o1 p1 la ca lp cp l1 c1 m1 d1 a (-b) _ (HX.out.1.later hS) (H1.out.later hS2) HS.out.1 HS.out.2.neg).mono ?_; rintro e f2 ⟨nz, oz, lz, cz, pz, mz, dz, rfl, hz, hb⟩; have HZ : Hid (RatAt f2 nz oz lz cz pz mz dz (a - b) ∧ Below W.heap.size W f2) := ⟨(by rw [Rat.sub_eq_add_neg]; exact hz), bnext hS hb⟩; clear hz; obtain ⟨k5, k2, k3, k4⟩ := HF.out.1.later (bnext hS hb) (by omega); have hbF2 : Below W.heap.size W f2 := bnext hS hb; have hzF2 := hbF2.size; clear hS hb S1; clear hS2; skip))
 all_goals go_wp2
 exact bodyPost_ret (v := .agg #[.bool nz, .slice oz lz cz, .slice pz mz dz]) (by simp [results, Tryz.results89, go_sem, k2, k3, k4]) rfl
  ⟨_, _, _, _, _, _, _, rfl, rat_kept HZ.out.1 ⟨k2, k3, k4⟩, below_store3 (bnext HF.out.2 HZ.out.2) (by omega) _ _ _⟩
end Go.Proofs.YtiiefpnkpfliiaaGreatDoor
namespace Go.Proofs.YtiiefpnkpfliiaaGreatDoor
open Go.RowKit
theorem opposite_rat (na : Bool) (ao po : Option Addr) (la ca lp cp : Nat) (a : Rat) (w : World) (hx : RatAt w na ao la ca po lp cp a) (hl : la ≤ 1073741824) (hl' : lp ≤ 1073741824) :
  Calls Tryz.prog 56 #[.agg #[.bool na, .slice ao la ca, .slice po lp cp]] w fun e w' => NewRat w w' e (-a) := by
 obtain ⟨W, hT⟩ := ROne2.mk' w na ao po la ca lp cp
 have hsz := hT.size
 have HX : Hid (RatAt W na ao la ca po lp cp a) := hx.later hT.below
 have KW : Hid (∀ w' : World, Below W.heap.size W w' → w'.cell? ⟨w.heap.size, 0, none⟩ = some (.bool na) ∧ w'.cell? ⟨w.heap.size, 1, none⟩ = some (.slice ao la ca) ∧ w'.cell? ⟨w.heap.size, 2, none⟩ = some (.slice po lp cp)) := fun w' h => ⟨(h.cell (p := ⟨w.heap.size, 0, none⟩) (by show w.heap.size < _; omega)).trans hT.a.1, (h.cell (p := ⟨w.heap.size, 1, none⟩) (by show w.heap.size < _; omega)).trans hT.a.2.1, (h.cell (p := ⟨w.heap.size, 2, none⟩) (by show w.heap.size < _; omega)).trans hT.a.2.2⟩
 have KS : Hid (∀ X : World, Below W.heap.size W X → ∀ x y z, (fun w' : World => w'.cell? ⟨w.heap.size, 0, none⟩ = some (.bool na) ∧ w'.cell? ⟨w.heap.size, 1, none⟩ = some (.slice ao la ca) ∧ w'.cell? ⟨w.heap.size, 2, none⟩ = some (.slice po lp cp)) (((X.setCell ⟨w.heap.size + 1, 0, none⟩ x).setCell ⟨w.heap.size + 1, 1, none⟩ y).setCell ⟨w.heap.size + 1, 2, none⟩ z)) := fun X h x y z => by
  obtain ⟨h0, h1, h2⟩ := KW.out X h
  (try dsimp only)
  rw [cell_off (by omega), cell_off (by omega), cell_off (by omega), cell_off (by omega), cell_off (by omega), cell_off (by omega), cell_off (by omega), cell_off (by omega), cell_off (by omega)]
  exact ⟨h0, h1, h2⟩
 have HF : Hid (Fresh3 W (w.heap.size + 1) ∧ Below w.heap.size w W) := ⟨hT.r, hT.below⟩
 clear hx
 go_enter Tryz.func56, Tryz.ntmps56
 go_upto_region 1 with fail
 rw [← hT.eq]
 clear hT
 have hzU : W.heap.size ≤ W.drew.heap.size := Nat.le_refl _
 have S0 : Step8 0 := ⟨trivial⟩
 go_region_held3 (fun w' => (w'.cell? ⟨w.heap.size, 0, none⟩ = some (.bool na) ∧ w'.cell? ⟨w.heap.size, 1, none⟩ = some (.slice ao la ca) ∧ w'.cell? ⟨w.heap.size, 2, none⟩ = some (.slice po lp cp)))
  (with_reducible (first | exact KS.out _ hbF2 _ _ _ | exact KW.out _ (Below.refl _ _).drew | exact KW.out _ (by assumption) | (refine KW.out _ ?_; (repeat (first | refine below_alloc ?_ (Nat.le_refl _) | refine Below.drew ?_ | refine below_set ?_ (by omega))); (first | exact hbF2 | exact hbF1 | exact Below.refl _ _))))
  (first
   | (have _t := S0; go_at_call 98; refine with_held (S := fun w9 => Below W.heap.size W w9) (by show Below _ _ _; with_reducible ((repeat (first | refine below_alloc ?_ (Nat.le_refl _) | refine Below.drew ?_ | refine below_set ?_ (by omega))); (first | exact hbF2 | exact hbF1 | exact Below.refl _ _))) (fun hS => ?_); refine (bneg_any na ao la ca a.num _ (HX.out.num.later hS) (by omega)).mono ?_; rintro e f1 ⟨n1, o1, l1, c1, rfl, hs, ho, hb⟩; have H1 : Hid (n1 = sgB (-a.num) ∧ Own W.heap.size f1 .u64 59 o1 l1 c1 (mag (-a.num).natAbs)) := ⟨hs, ho.mono hS.size⟩; clear hs ho; have hbF1 : Below W.heap.size W f1 := bnext hS hb; have hzF1 := hbF1.size; clear hS hb S0; have S1 : Step8 1 := ⟨trivial⟩)
   | (have _t := S1; go_at_call 58; refine with_held (S := fun w9 => Below W.heap.size W w9) (by show Below _ _ _; with_reducible ((repeat (first | refine below_alloc ?_ (Nat.le_refl _) | refine Below.drew ?_ | refine below_set ?_ (by omega))); (first | exact hbF2 | exact hbF1 | exact Below.refl _ _))) (fun hS => ?_); refine with_held (S := fun w9 => Below f1.heap.size f1 w9) (by show Below _ _ _; with_reducible ((repeat (refine below_alloc ?_ (Nat.le_refl _))); exact Below.refl _ _)) (fun hS2 => ?_); refine (cloneNat_any po lp cp a.den _ (HX.out.den.later hS) hl').mono ?_; rintro e f2 ⟨o2, l2, c2, rfl, ho, hb⟩; have H2 : Hid ((n1 = sgB (-a.num) ∧ Own W.heap.size f2 .u64 59 o1 l1 c1 (mag (-a.num).natAbs)) ∧ Own W.heap.size f2 .u64 59 o2 l2 c2 (mag a.den) ∧ Parted o1 o2 ∧ Below W.heap.size W f2) := ⟨⟨H1.out.1, H1.out.2.later (bnext hS2 hb)⟩, ho.mono hS.size, Parted.made H1.out.2 ho hS2.size, bnext hS hb⟩; clear ho; obtain ⟨k5, k2, k3, k4⟩ := HF.out.1.later (bnext hS hb) (by omega); have hbF2 : Below W.heap.size W f2 := bnext hS hb; have hzF2 := hbF2.size; clear hS hb S1; clear hS2; skip))
 all_goals go_wp2
 have hs2 := H2.out.2.2.2.size
 exact bodyPost_ret (v := .agg #[.bool n1, .slice o1 l1 c1, .slice o2 l2 c2]) (by simp [results, Tryz.results56, go_sem, k2, k3, k4]) rfl
  ⟨_, _, _, _, _, _, _, rfl, by rw [Rat.neg_num]; exact H2.out.1.1, by rw [Rat.neg_num]; exact (H2.out.1.2.store3 (by omega) _ _ _).mono (by omega), by rw [Rat.neg_den]; exact (H2.out.2.1.store3 (by omega) _ _ _).mono (by omega), H2.out.2.2.1, below_store3 (bnext HF.out.2 H2.out.2.2.2) (by omega) _ _ _⟩
end Go.Proofs.YtiiefpnkpfliiaaGreatDoor
namespace Go.Proofs.YtiiefpnkpfliiaaGreatDoor
open Go.RowKit
structure Spoil (w : World) (g off len cap : Nat) : Prop where
  cell : ∀ j, j < len → ∃ z, w.cell? ⟨g, off + j, none⟩ = some (.int .u64 z)
  room : ∀ j, j < cap → (w.cell? ⟨g, off + j, none⟩).isSome = true
  soft : ∀ j, w.frozen? ⟨g, j, none⟩ = false
  lt : g < w.heap.size
theorem Spoil.ofOwn {B : Nat} {w : World} {t : TypeId} {g off len cap : Nat} {zs : List Int} (h : Own B w .u64 t (some ⟨g, off, none⟩) len cap zs) : Spoil w g off len cap ∧ B ≤ g ∧ len ≤ cap := by
  rcases h with ⟨h, _⟩ | ⟨g', off', cur, he, hB, hh, hc, hl, _, hz⟩
  · cases h
  · cases he
    have hlt := heap_lt hh
    refine ⟨⟨fun j hj => ⟨dig zs j, ?_⟩, fun j hj => ?_, fun j => ?_, hlt⟩, hB, hl⟩
    · simp only [World.cell?, hh]; exact hz j hj
    · simp only [World.cell?, hh]; simp; omega
    · simp [World.frozen?, hh]
theorem Spoil.later {w w' : World} {g off len cap : Nat} (h : Spoil w g off len cap) (hb : Below w.heap.size w w') : Spoil w' g off len cap :=
  ⟨fun j hj => by obtain ⟨z, hz⟩ := h.cell j hj; exact ⟨z, (hb.cell (p := ⟨g, off + j, none⟩) h.lt).trans hz⟩,
   fun j hj => by rw [hb.cell (p := ⟨g, off + j, none⟩) h.lt]; exact h.room j hj,
   fun j => by rw [hb.frozen (p := ⟨g, j, none⟩) h.lt]; exact h.soft j, Nat.lt_of_lt_of_le h.lt hb.size⟩
theorem Spoil.set {w : World} {g off len cap k : Nat} (h : Spoil w g off len cap) (hk : k < len) (z : Int) : Spoil (w.setCell ⟨g, off + k, none⟩ (.int .u64 z)) g off len cap := by
  have hs : (w.cell? ⟨g, off + k, none⟩).isSome = true := by obtain ⟨y, hy⟩ := h.cell k hk; rw [hy]; rfl
  refine ⟨fun j hj => ?_, fun j hj => ?_, fun j => ?_, by simpa using h.lt⟩
  · by_cases e : j = k
    · subst e; obtain ⟨y, hy⟩ := h.cell j hj; exact ⟨z, by simp [go_sem, hy]⟩
    · obtain ⟨y, hy⟩ := h.cell j hj; obtain ⟨y', hy'⟩ := h.cell k hk; exact ⟨y, by simp [go_sem, hy, hy', e]⟩
  · by_cases e : j = k
    · subst e; obtain ⟨y, hy⟩ := h.cell j hk; simp [go_sem, hy]
    · have := h.room j hj; obtain ⟨y', hy'⟩ := h.cell k hk; simpa [go_sem, hy', e] using this
  · have := h.soft j; simpa [go_sem] using this
structure Stay (ao : Option Addr) (w w' : World) : Prop where
  size : w.heap.size ≤ w'.heap.size
  block : ∀ k, k < w.heap.size → (∀ p : Addr, ao = some p → p.block ≠ k) → w'.heap[k]? = w.heap[k]?
theorem Stay.refl (ao : Option Addr) (w : World) : Stay ao w w := ⟨Nat.le_refl _, fun _ _ _ => rfl⟩
theorem Stay.set {g off : Nat} {w w' : World} (h : Stay (some ⟨g, off, none⟩) w w') (j : Nat) (v : Value) : Stay (some ⟨g, off, none⟩) w (w'.setCell ⟨g, j, none⟩ v) :=
  ⟨by simpa [World.setCell] using h.size, fun k hk hp => by rw [Below.heap_setCell w' ⟨g, j, none⟩ v k (fun e => hp _ rfl e.symm)]; exact h.block k hk hp⟩
theorem Stay.next {ao : Option Addr} {w w' w2 : World} (h : Stay ao w w') (hb : Below w'.heap.size w' w2) : Stay ao w w2 :=
  ⟨Nat.le_trans h.size hb.size, fun k hk hp => (hb.block k (Nat.lt_of_lt_of_le hk h.size)).trans (h.block k hk hp)⟩
theorem Stay.after {ao : Option Addr} {w w' w2 : World} (hb : Below w.heap.size w w') (h : Stay ao w' w2) : Stay ao w w2 :=
  ⟨Nat.le_trans hb.size h.size, fun k hk hp => (h.block k (Nat.lt_of_lt_of_le hk hb.size) hp).trans (hb.block k hk)⟩
theorem Stay.cell {ao : Option Addr} {w w' : World} (h : Stay ao w w') {r j : Nat} (hr : r < w.heap.size) (hp : ∀ p : Addr, ao = some p → p.block ≠ r) : w'.cell? ⟨r, j, none⟩ = w.cell? ⟨r, j, none⟩ := by
  simp only [World.cell?, h.block r hr hp]
theorem Stay.frozen {ao : Option Addr} {w w' : World} (h : Stay ao w w') {r j : Nat} (hr : r < w.heap.size) (hp : ∀ p : Addr, ao = some p → p.block ≠ r) : w'.frozen? ⟨r, j, none⟩ = w.frozen? ⟨r, j, none⟩ := by
  simp only [World.frozen?, h.block r hr hp]
theorem below_cells {B g o : Nat} {w w' : World} {v : Value} (h : Below B w w') (hg : B ≤ g) : Below B w (w'.setCells g o [v]) := h.setCell (p := ⟨g, o, none⟩) hg v
theorem Spoil.olds {w : World} {g off len cap : Nat} (h : Spoil w g off len cap) : ∃ olds : List Value, olds.length = len * 1 ∧ ∀ j u, olds[j]? = some u → w.cell? ⟨g, off + j, none⟩ = some u := by
  refine ⟨(List.range len).map fun j => (w.cell? ⟨g, off + j, none⟩).getD undef, by simp, fun j u hj => ?_⟩
  rw [List.getElem?_map] at hj
  by_cases hl : j < len
  · rw [List.getElem?_range hl] at hj
    obtain ⟨z, hz⟩ := h.cell j hl
    simp only [Option.map_some, hz, Option.getD_some, Option.some.injEq] at hj
    rw [hz, hj]
  · rw [List.getElem?_eq_none (by simpa using hl)] at hj
    cases hj
theorem words_any (B : Nat) (ao : Option Addr) (len cap : Nat) (zs : List Int) (w : World) (ho : Own B w .u64 59 ao len cap zs) (hB : B ≤ w.heap.size) (hl : len ≤ 8589934592) :
    Calls Tryz.prog 119 #[.slice ao len cap] w fun e w' => e = .returned (.tuple #[]) ∧ Below B w w' ∧ Stay ao w w' := by
  obtain ⟨i0, hi, hz0, hz1, hz2⟩ := info_parts info64
  have h63 : Hid (len + 1 ≤ maxLen) := by show _ ≤ _; unfold maxLen; omega
  have hby : Hid ((len + 1) * 8 ≤ 140737488355328) := by show _ ≤ _; omega
  have HO : Hid (Own B w .u64 59 ao len cap zs) := ho
  by_cases hao : ao = none
  · subst hao
    obtain ⟨rfl, rfl⟩ : len = 0 ∧ cap = 0 := by
      rcases ho with ⟨_, h1, h2, _⟩ | ⟨g', off', cur, he, _⟩
      · exact ⟨h1, h2⟩
      · cases he
    have hbA : Below B w (w.alloc (.cells #[.int .u64 7] 59)) := (Below.refl B w).alloc hB _
    clear ho
    go_enter Tryz.func119, Tryz.ntmps119
    go_wp2
    go_loopw [2] (fun i wr => i = .int .i64 0 ∧ wr = w) (fun i _ => 0)
    case atStart => exact ⟨rfl, rfl⟩
    case round =>
      obtain ⟨rfl, rfl⟩ := hrel
      go_wp2_with (at_builtin; refine wpList_append_grows _ rfl _ _ 23 rfl 59 i0 (.int .u64 0) 1 8 Tryz.underlying23 hi hz0 hz1 hz2 rfl (by decide) none 0 0 [] rfl (fun _ => ⟨rfl, rfl⟩) rfl (fun b h => by cases h) ⟨wr.heap.size, 0, none⟩ 1 1 [.int .u64 7] rfl rfl (World.news_of_block (cs := #[.int .u64 7]) (t := 59) (fr := (0, 0)) (heap_alloc_new wr _)) (by simp [Value.oneCell']) (by decide) h63.out hby.out ?_; intro v' w' hown hgrow)
      go_end0
      exact ⟨rfl, hbA.trans ((grown_below hgrow).mono (Nat.le_trans hB hbA.size)), ((Stay.refl _ _).next ((Below.refl _ _).alloc (Nat.le_refl _) _)).next (grown_below hgrow)⟩
  · obtain ⟨⟨g, off, sp⟩, rfl⟩ : ∃ x, ao = some x := Option.ne_none_iff_exists'.1 hao
    obtain rfl : sp = none := by
      rcases ho with ⟨h, _⟩ | ⟨g', off', cur, he, _⟩
      · cases h
      · cases he; rfl
    obtain ⟨hsp, hBg, hlc⟩ := Spoil.ofOwn ho
    have HSP : Hid (Spoil w g off len cap) := hsp
    clear ho hsp hao
    go_enter Tryz.func119, Tryz.ntmps119
    go_wp2
    go_loopw [2] (fun i wr => ∃ k : Nat, k ≤ len ∧ i = .int .i64 k ∧ Spoil wr g off len cap ∧ Below B w wr ∧ Stay (some ⟨g, off, none⟩) w wr) (fun i _ => len - (intOf i).toNat)
    case atStart => exact ⟨0, Nat.zero_le _, rfl, HSP.out, Below.refl _ _, Stay.refl _ _⟩
    case round =>
      obtain ⟨k, hk, rfl, hsp, hbel, hsy⟩ := hrel
      have HSY : Hid (Stay (some ⟨g, off, none⟩) w wr) := hsy
      clear hsy
      have HS : Hid (Spoil wr g off len cap) := hsp
      have hgl := hsp.lt
      by_cases hlt : k < len
      · obtain ⟨z, hz⟩ := hsp.cell k hlt
        have hfz := hsp.soft (off + k)
        clear hsp
        go_wp2
        go_roundw
        case rel => exact ⟨k + 1, by omega, by go_num, HS.out.set hlt _, hbel.setCell (p := ⟨g, off + k, none⟩) hBg _, HSY.out.set _ _⟩
        case measure => simp [intOf]; omega
      · obtain rfl : k = len := by omega
        have hA := HS.out.later ((Below.refl wr.heap.size wr).alloc (Nat.le_refl _) (.cells #[.int .u64 7] 59))
        have hbA : Below B w (wr.alloc (.cells #[.int .u64 7] 59)) := hbel.alloc (Nat.le_trans hB hbel.size) _
        obtain ⟨olds, hol⟩ := hA.olds
        have HL : Hid (olds.length = k * 1 ∧ ∀ j u, olds[j]? = some u → (wr.alloc (.cells #[.int .u64 7] 59)).cell? ⟨g, off + j, none⟩ = some u) := hol
        have HP : Hid (k + 1 ≤ cap → ∀ j, j < [Value.int .u64 7].length → ((wr.alloc (.cells #[.int .u64 7] 59)).cell? ⟨g, off + k * 1 + j, none⟩).isSome = true ∧ (wr.alloc (.cells #[.int .u64 7] 59)).frozen? ⟨g, off + k * 1 + j, none⟩ = false) := fun h j hj => by
          obtain rfl : j = 0 := by simpa using hj
          exact ⟨by simpa using hA.room k (by omega), hA.soft _⟩
        clear hsp hol hA
        by_cases hr : k + 1 ≤ cap
        · go_wp2_with (at_builtin; refine wpList_append_arg _ rfl _ _ 23 rfl 59 i0 (.int .u64 0) 1 8 Tryz.underlying23 hi hz0 hz1 hz2 rfl (by decide) g off k cap olds rfl HL.out.1 HL.out.2 ⟨wr.heap.size, 0, none⟩ 1 1 [.int .u64 7] rfl rfl (World.news_of_block (cs := #[.int .u64 7]) (t := 59) (fr := (0, 0)) (heap_alloc_new wr _)) (by simp [Value.oneCell']) HP.out h63.out hby.out (fun _ => ?_) (fun h => absurd h (by omega)))
          go_end0
          exact ⟨rfl, below_cells hbA hBg, (HSY.out.next ((Below.refl _ _).alloc (Nat.le_refl _) _)).set _ _⟩
        · go_wp2_with (at_builtin; refine wpList_append_arg _ rfl _ _ 23 rfl 59 i0 (.int .u64 0) 1 8 Tryz.underlying23 hi hz0 hz1 hz2 rfl (by decide) g off k cap olds rfl HL.out.1 HL.out.2 ⟨wr.heap.size, 0, none⟩ 1 1 [.int .u64 7] rfl rfl (World.news_of_block (cs := #[.int .u64 7]) (t := 59) (fr := (0, 0)) (heap_alloc_new wr _)) (by simp [Value.oneCell']) HP.out h63.out hby.out (fun h => absurd h hr) (fun _ => ?_); intro v' w' hown hgrow)
          go_end0
          exact ⟨rfl, hbA.trans ((grown_below hgrow).mono (Nat.le_trans hB hbA.size)), (HSY.out.next ((Below.refl _ _).alloc (Nat.le_refl _) _)).next (grown_below hgrow)⟩
theorem spoil_any (B : Nat) (neg : Bool) (ao : Option Addr) (len cap : Nat) (zs : List Int) (w : World) (ho : Own B w .u64 59 ao len cap zs) (hB : B ≤ w.heap.size) (hl : len ≤ 8589934592) :
    Calls Tryz.prog 118 #[.agg #[.bool neg, .slice ao len cap]] w fun e w' => e = .returned (.tuple #[]) ∧ Below B w w' ∧ Stay ao w w' := by
  have hA : Below w.heap.size w (w.alloc (.cells #[.bool neg, .slice ao len cap] 26)) := (Below.refl _ _).alloc (Nat.le_refl _) _
  have HO : Hid (Own B (w.alloc (.cells #[.bool neg, .slice ao len cap] 26)) .u64 59 ao len cap zs) := ho.later hA
  clear ho
  go_enter Tryz.func118, Tryz.ntmps118
  go_wp2_with (go_at_call 119; refine (words_any B ao len cap zs _ HO.out (Nat.le_trans hB hA.size) hl).mono ?_; rintro e w1 ⟨rfl, hb1, hsy⟩)
  go_end0
  exact ⟨rfl, (below_less hA hB).trans hb1, Stay.after hA hsy⟩
end Go.Proofs.YtiiefpnkpfliiaaGreatDoor
namespace Go.Proofs.YtiiefpnkpfliiaaGreatDoor
open Go.RowKit
theorem rcheck_bad (na : Bool) (ao po : Option Addr) (la ca lp cp : Nat) (x d : List Int) (w : World) (hx : RowAt w .u64 ao la ca x) (wx : Wd 18446744073709551616 x) (hd : RowAt w .u64 po lp cp d) (wd : Wd 18446744073709551616 d) (hl : la ≤ 16777216) (hl' : lp ≤ 16777216) (hT0 : TabAt 0 Lib.deBruijn64tab w) (hm : mayR na x d = false) :
  Calls Tryz.prog 10 #[.agg #[.bool na, .slice ao la ca, .slice po lp cp]] w fun e w' => e = .returned (.int .i64 20) ∧ Below w.heap.size w w' := by
 obtain ⟨W, hW⟩ := ROne1.mk' w na ao po la ca lp cp
 have hsz := hW.size
 have HX : Hid (RowAt W .u64 ao la ca x ∧ RowAt W .u64 po lp cp d) := ⟨hx.later hW.below, hd.later hW.below⟩
 have HTb : Hid (TabAt 0 Lib.deBruijn64tab W) := tab_later hT0 hW.below
 have HLd : Hid (lp = d.length) := hd.hlen
 cases h1 : mayB na x
 ·
  have HC1 : Hid ((if mayB na x then 0 else 10 : Int) = 10) := by show _ = _; rw [h1]; rfl
  clear hx hd hT0 hm h1
  go_enter Tryz.func10, Tryz.ntmps10
  go_wp2_with (go_at_call 51; rw [← hW.eq]; refine (check_at na ao la ca x _ HX.out.1 (by omega) 10 HC1.out).mono ?_; rintro e w1 ⟨rfl, hb1⟩; obtain ⟨p0, p1, p2⟩ := hW.a.later hb1 (by omega))
  go_ret
  exact ⟨rfl, bnext hW.below hb1⟩
 ·
  have HC1 : Hid ((if mayB na x then 0 else 10 : Int) = 0) := by show _ = _; rw [h1]; rfl
  cases h2 : mayB false d
  ·
   have HC2 : Hid ((if mayB false d then 0 else 10 : Int) = 10) := by show _ = _; rw [h2]; rfl
   clear hx hd hT0 hm h1 h2
   go_enter Tryz.func10, Tryz.ntmps10
   go_wp2_with (first
    | (go_at_call 51; have _t := hb1; refine (check_at false po lp cp d _ (HX.out.2.later hb1) (by omega) 10 HC2.out).mono ?_; rintro e w2 ⟨rfl, hb2⟩; clear p0 p1 p2; obtain ⟨p0, p1, p2⟩ := hW.a.later (bnext hb1 hb2) (by omega))
    | (go_at_call 51; rw [← hW.eq]; refine (check_at na ao la ca x _ HX.out.1 (by omega) 0 HC1.out).mono ?_; rintro e w1 ⟨rfl, hb1⟩; obtain ⟨p0, p1, p2⟩ := hW.a.later hb1 (by omega)))
   go_ret
   exact ⟨rfl, bnext hW.below (bnext hb1 hb2)⟩
  ·
   have HC2 : Hid ((if mayB false d then 0 else 10 : Int) = 0) := by show _ = _; rw [h2]; rfl
   by_cases h3 : lp = 0
   ·
    have h3' : ((lp : Int) == 0) = true := by simp; omega
    clear hx hd hT0 hm h1 h2 h3
    go_enter Tryz.func10, Tryz.ntmps10
    go_wp2_with (first
     | (go_at_call 51; have _t := hb1; refine (check_at false po lp cp d _ (HX.out.2.later hb1) (by omega) 0 HC2.out).mono ?_; rintro e w2 ⟨rfl, hb2⟩; clear p0 p1 p2; obtain ⟨p0, p1, p2⟩ := hW.a.later (bnext hb1 hb2) (by omega))
     | (go_at_call 51; rw [← hW.eq]; refine (check_at na ao la ca x _ HX.out.1 (by omega) 0 HC1.out).mono ?_; rintro e w1 ⟨rfl, hb1⟩; obtain ⟨p0, p1, p2⟩ := hW.a.later hb1 (by omega)))
    go_ret
    exact ⟨rfl, bnext hW.below (bnext hb1 hb2)⟩
   ·
    have h3' : ((lp : Int) == 0) = false := by simp; omega
    obtain ⟨v, hv, ev⟩ := int_of_may HX.out.1 wx h1
    obtain ⟨u, hu, eu⟩ := int_of_may HX.out.2 wd h2
    have HG : Hid (decide (Nat.gcd v.natAbs u.natAbs = 1) = false) := by
     show _ = _
     rw [← hm]; unfold mayR
     rw [h1, h2, decide_eq_true (show 0 < d.length by have := HLd.out; omega), Bool.true_and, Bool.true_and, Bool.true_and, ev, eu, mag_val, mag_val, Int.natAbs_natCast, Int.natAbs_natCast]
    have HR : Hid (RowAt W .u64 ao la ca (mag v.natAbs) ∧ RowAt W .u64 po lp cp (mag u.natAbs) ∧ 0 < u.natAbs) := ⟨hv.row, hu.row, mag_len_pos.1 (by rw [← hu.row.hlen]; omega)⟩
    clear hx hd hT0 hm h1 h2 hv hu ev eu
    go_enter Tryz.func10, Tryz.ntmps10
    go_wp2_with (first
     | (go_at_call 51; have _t := hb1; refine (check_at false po lp cp d _ (HX.out.2.later hb1) (by omega) 0 HC2.out).mono ?_; rintro e w2 ⟨rfl, hb2⟩; clear p0 p1 p2; obtain ⟨p0, p1, p2⟩ := hW.a.later (bnext hb1 hb2) (by omega))
     | (go_at_call 51; rw [← hW.eq]; refine (check_at na ao la ca x _ HX.out.1 (by omega) 0 HC1.out).mono ?_; rintro e w1 ⟨rfl, hb1⟩; obtain ⟨p0, p1, p2⟩ := hW.a.later hb1 (by omega))
     | (go_at_call 52; refine (apart_any ao po la ca lp cp _ _ _ (HR.out.1.later (bnext hb1 hb2)) (HR.out.2.1.later (bnext hb1 hb2)) HR.out.2.2 (by omega) (by omega) (tab_later HTb.out (bnext hb1 hb2)) false HG.out).mono ?_; rintro e w3 ⟨rfl, hb3⟩))
    go_ret
    exact ⟨rfl, bnext hW.below (bnext (bnext hb1 hb2) hb3)⟩
theorem checkBoth_bad (na nb : Bool) (ao po bo qo : Option Addr) (la ca lp cp lb cb lq cq : Nat) (x d y f : List Int) (w : World) (hx : RowAt w .u64 ao la ca x) (wx : Wd 18446744073709551616 x) (hd : RowAt w .u64 po lp cp d) (wd : Wd 18446744073709551616 d) (hy : RowAt w .u64 bo lb cb y) (wy : Wd 18446744073709551616 y) (hf : RowAt w .u64 qo lq cq f) (wf : Wd 18446744073709551616 f) (hla : la ≤ 16777216) (hlp : lp ≤ 16777216) (hlb : lb ≤ 16777216) (hlq : lq ≤ 16777216) (hT0 : TabAt 0 Lib.deBruijn64tab w) (hm : (mayR na x d && mayR nb y f) = false) :
  Calls Tryz.prog 73 #[.agg #[.bool na, .slice ao la ca, .slice po lp cp], .agg #[.bool nb, .slice bo lb cb, .slice qo lq cq]] w fun e w' => e = .returned (.int .i64 20) ∧ Below w.heap.size w w' := by
 obtain ⟨W, hW⟩ := RTwo2.mk' w na nb ao po bo qo la ca lp cp lb cb lq cq
 have hsz := hW.size
 have HX : Hid (RowAt W .u64 ao la ca x ∧ RowAt W .u64 po lp cp d ∧ RowAt W .u64 bo lb cb y ∧ RowAt W .u64 qo lq cq f ∧ TabAt 0 Lib.deBruijn64tab W) := ⟨hx.later hW.below, hd.later hW.below, hy.later hW.below, hf.later hW.below, tab_later hT0 hW.below⟩
 have HWd : Hid (Wd 18446744073709551616 x ∧ Wd 18446744073709551616 d ∧ Wd 18446744073709551616 y ∧ Wd 18446744073709551616 f) := ⟨wx, wd, wy, wf⟩
 clear hx hd hy hf wx wd wy wf hT0
 cases h1 : mayR na x d
 ·
  have H1 : Hid (mayR na x d = false) := h1
  clear hm h1
  go_enter Tryz.func73, Tryz.ntmps73
  go_wp2_with (go_at_call 10; rw [← hW.eq]; refine (rcheck_bad na ao po la ca lp cp x d _ HX.out.1 HWd.out.1 HX.out.2.1 HWd.out.2.1 hla hlp HX.out.2.2.2.2 H1.out).mono ?_; rintro e w1 ⟨rfl, hb1⟩)
  go_ret
  exact ⟨rfl, bnext hW.below hb1⟩
 ·
  have H2 : Hid (mayR nb y f = false) := by rw [h1] at hm; exact hm
  obtain ⟨a, hA, _, _⟩ := rat_of_may HX.out.1 HWd.out.1 HX.out.2.1 HWd.out.2.1 h1
  have HA : Hid (RatAt W na ao la ca po lp cp a) := hA
  clear hm h1 hA
  go_enter Tryz.func73, Tryz.ntmps73
  go_wp2_with (first
   | (go_at_call 10; have _t := hb1; refine (rcheck_bad nb bo qo lb cb lq cq y f _ (HX.out.2.2.1.later hb1) HWd.out.2.2.1 (HX.out.2.2.2.1.later hb1) HWd.out.2.2.2 hlb hlq (tab_later HX.out.2.2.2.2 hb1) H2.out).mono ?_; rintro e w2 ⟨rfl, hb2⟩)
   | (go_at_call 10; rw [← hW.eq]; refine (rcheck_good na ao po la ca lp cp a _ HA.out (by omega) (by omega) HX.out.2.2.2.2).mono ?_; rintro e w1 ⟨rfl, hb1⟩; obtain ⟨p0, p1, p2⟩ := hW.b.later hb1 (by omega)))
  go_ret
  exact ⟨rfl, bnext hW.below (bnext hb1 hb2)⟩
end Go.Proofs.YtiiefpnkpfliiaaGreatDoor
