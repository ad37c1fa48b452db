/-
  A pack of walks and facts: SL.
-/
import Derived.Test.YtiiefpnkpfliiaaGreatDoorPC23
import Derived.Test.YtiiefpnkpfliiaaGreatDoorPC24
import Derived.Test.YtiiefpnkpfliiaaGreatDoorPC25
set_option maxRecDepth 100000
set_option maxHeartbeats 40000000
set_option linter.unusedVariables false
set_option linter.unusedSimpArgs false
namespace Go.Proofs.YtiiefpnkpfliiaaGreatDoor
open Go.RowKit
theorem int_divInt (f : Int) : (f : Rat) = Rat.divInt f 1 := by
 have := (Rat.num_divInt_den (f : Rat)).symm
 rwa [Rat.num_intCast, Rat.den_intCast] at this
theorem inv_left {b : Rat} {s t : Nat} {f : Int} (hs : b.den = s) (ht : 0 < t) (hn : b.num = f * (s : Int) + (t : Int)) (hc : Nat.gcd s t = 1) : ((1 : Int) : Rat) / (b - (f : Rat)) = ⟨(s : Int), t, by omega, hc⟩ := by
 have hs0 : (s : Int) ≠ 0 := by have := b.den_pos; omega
 have e1 : b - (f : Rat) = Rat.divInt (t : Int) (s : Int) := by
  have h1 := Rat.num_divInt_den b
  rw [hs, hn] at h1
  rw [← h1, int_divInt f, Rat.divInt_sub_divInt _ _ hs0 (by decide), Int.mul_one, Int.mul_one]
  congr 1; omega
 rw [e1, Rat.div_def, Rat.inv_divInt, Rat.mk_eq_divInt]
 exact Rat.one_mul _
theorem add_inv {x : Rat} {f : Nat} (hx : 0 < x.num) (hc : Nat.gcd (f * x.num.natAbs + x.den) x.num.natAbs = 1) : (((f : Nat) : Int) : Rat) + ((1 : Int) : Rat) / x = ⟨((f * x.num.natAbs + x.den : Nat) : Int), x.num.natAbs, by omega, hc⟩ := by
 have e1 : ((1 : Int) : Rat) / x = Rat.divInt (x.den : Int) x.num := by
  rw [Rat.div_def]
  have h1 := Rat.num_divInt_den x
  rw [← h1]
  rw [Rat.inv_divInt, h1]
  exact Rat.one_mul _
 have e2 : ((x.num.natAbs : Nat) : Int) = x.num := by omega
 rw [e1, int_divInt, Rat.divInt_add_divInt _ _ (by decide) (by omega), Rat.mk_eq_divInt, Int.natCast_add, Int.natCast_mul, e2, Int.one_mul, Int.mul_one]
def IVar (U wx : World) (r : Nat) (v : Int) : Prop := ∃ n o l c, Boxed wx r n o l c ∧ IntAt wx n o l c v ∧ U.heap.size ≤ r ∧ r < wx.heap.size ∧ Below U.heap.size U wx
theorem iv_a {U y : World} {n : Bool} {o : Option Addr} {l c : Nat} {v : Int} (h : IntAt y n o l c v) (hb : Below U.heap.size U y) : IVar U (y.alloc (.cells #[.bool n, .slice o l c] 26)) y.heap.size v :=
 ⟨n, o, l, c, ⟨by simp [go_sem], by simp [go_sem]⟩, int_alloc h, hb.size, by simp, below_alloc hb (Nat.le_refl _)⟩
def NVar (U wx : World) (r : Nat) (v : Rat) : Prop := ∃ n o l c p m k, RVar wx r n o l c p m k v ∧ U.heap.size ≤ r ∧ Below U.heap.size U wx
theorem nvr_a {U y : World} {n : Bool} {o p : Option Addr} {l c m k : Nat} {v : Rat} (h : Hid (RatAt y n o l c p m k v)) (hb : Below U.heap.size U y) : NVar U (y.alloc (.cells #[.bool n, .slice o l c, .slice p m k] 28)) y.heap.size v :=
 ⟨n, o, l, c, p, m, k, (RVar.new hb h.out).out.1, hb.size, (RVar.new hb h.out).out.2.1⟩
theorem nvr_c {U y : World} {n : Bool} {o p : Option Addr} {l c m k r : Nat} {v : Rat} (h : Hid (RatAt y n o l c p m k v)) (hb : Below U.heap.size U y) (h1 : ∀ j, y.frozen? ⟨r, j, none⟩ = false) (h2 : y.cell? ⟨r, 0, none⟩ = some (.bool false)) (h3 : y.cell? ⟨r, 1, none⟩ = some (.slice none 0 0)) (h4 : y.cell? ⟨r, 2, none⟩ = some (.slice none 0 0)) (hr : U.heap.size ≤ r) : NVar U (((y.setCell ⟨r, 0, none⟩ (.bool n)).setCell ⟨r, 1, none⟩ (.slice o l c)).setCell ⟨r, 2, none⟩ (.slice p m k)) r v :=
 ⟨n, o, l, c, p, m, k, ⟨boxed_set h2 h3 h4, rat_kept h.out ⟨h2, h3, h4⟩, by have := put3_sz (w := y) (r := r) (.bool n) (.slice o l c) (.slice p m k); unfold put3 at this; rw [this]; exact cell_lt h2⟩, hr, below_store3 hb hr _ _ _⟩
theorem Fresh3.new (w : World) : Fresh3 (w.alloc (.cells #[.bool false, .slice none 0 0, .slice none 0 0] 28)) w.heap.size := ⟨fun j => by simp [go_sem], by simp [go_sem], by simp [go_sem], by simp [go_sem]⟩
theorem Fresh3.drew' {X : World} {r : Nat} (h : Fresh3 X r) : Fresh3 X.drew r := ⟨h.1, h.2.1, h.2.2.1, h.2.2.2⟩
theorem Fresh3.next {W w2 : World} {r : Nat} (k : Fresh3 W r) (h : Below W.heap.size W w2) : Fresh3 w2 r := k.later h (cell_lt k.2.1)
theorem den_one (a : Rat) (h : a.num.natAbs % a.den = 0) : a.den = 1 := by
 have h1 := a.reduced
 unfold Nat.Coprime at h1
 have h2 := Nat.gcd_eq_right (Nat.dvd_of_mod_eq_zero h)
 rw [h2] at h1
 exact h1
theorem isz {v : Int} {k : Nat} (h : (mag v.natAbs).length ≤ k) (hk : 1 ≤ k) : Sz (v : Rat) k := ⟨h, Nat.le_trans (show (mag 1).length ≤ 1 by decide) hk⟩
theorem one_sz1 : Sz ((1 : Int) : Rat) 1 := by unfold Sz; decide
theorem one_sz : Sz ((1 : Int) : Rat) 1000 := by unfold Sz; decide
theorem qsimple_pos (k : Nat) : ∀ (na nb : Bool) (ao po bo qo : Option Addr) (la ca lp cp lb cb lq cq : Nat) (a b x : Rat) (w : World), RatAt w na ao la ca po lp cp a → RatAt w nb bo lb cb qo lq cq b → Sz a 100 → Sz b 100 → LeQ a b → 0 < a.num → 0 < x.num → Simp k a.num.natAbs a.den b.num.natAbs b.den x.num.natAbs x.den →
  Calls Tryz.prog 42 #[.agg #[.bool na, .slice ao la ca, .slice po lp cp], .agg #[.bool nb, .slice bo lb cb, .slice qo lq cq]] w fun e w' => SomeR w w' e x := by
 induction k using Nat.strongRecOn with
 | _ k IH =>
 intro na nb ao po bo qo la ca lp cp lb cb lq cq a b x w hx hy ha hb hle h0 hx0 hS
 have HIH : Hid (∀ m, m < k → ∀ (na nb : Bool) (ao po bo qo : Option Addr) (la ca lp cp lb cb lq cq : Nat) (a b x : Rat) (w : World), RatAt w na ao la ca po lp cp a → RatAt w nb bo lb cb qo lq cq b → Sz a 100 → Sz b 100 → LeQ a b → 0 < a.num → 0 < x.num → Simp m a.num.natAbs a.den b.num.natAbs b.den x.num.natAbs x.den →
  Calls Tryz.prog 42 #[.agg #[.bool na, .slice ao la ca, .slice po lp cp], .agg #[.bool nb, .slice bo lb cb, .slice qo lq cq]] w fun e w' => SomeR w w' e x) := IH
 obtain ⟨W, hT⟩ := RTwo3.mk' w na nb ao po bo qo la ca lp cp lb cb lq cq
 have hsz : w.heap.size + 3 ≤ W.heap.size := by rw [hT.size]; exact Nat.le_refl _
 have HX : Hid (RatAt W na ao la ca po lp cp a ∧ RatAt W nb bo lb cb qo lq cq b) := ⟨hx.later hT.below, hy.later hT.below⟩
 have hla : la ≤ 100 := (hx.len ha).1
 have hlp : lp ≤ 100 := (hx.len ha).2
 have hlb : lb ≤ 100 := (hy.len hb).1
 have hlq : lq ≤ 100 := (hy.len hb).2
 obtain ⟨hb0, hle'⟩ := hle.pos h0
 have HSz : Hid (Sz a 100 ∧ Sz b 100) := ⟨ha, hb⟩
 have HSA : Hid (cmpI a.num 0 = 1) := by show _ = _; unfold cmpI; rw [if_neg (by omega), if_pos h0]
 have HSB : Hid (cmpI b.num 0 = 1) := by show _ = _; unfold cmpI; rw [if_neg (by omega), if_pos hb0]
 obtain ⟨F, hF⟩ : ∃ F, a.num.natAbs / a.den = F := ⟨_, rfl⟩
 have hFi : a.num / (a.den : Int) = (F : Int) := by rw [← hF, Int.natCast_ediv]; congr 1; omega
 have HF : Hid (a.num.natAbs / a.den = F ∧ a.num / (a.den : Int) = (F : Int) ∧ (mag F).length ≤ 100) := ⟨hF, hFi, by rw [← hF]; exact Nat.le_trans (div_len _ _) ha.1⟩
 have HS : Hid (Simp k a.num.natAbs a.den b.num.natAbs b.den x.num.natAbs x.den ∧ 0 < x.num ∧ LeQ a b ∧ 0 < a.num ∧ 0 < b.num ∧ a.num.natAbs * b.den ≤ b.num.natAbs * a.den) := ⟨hS, hx0, hle, h0, hb0, hle'⟩
 have HW : Hid (Boxed3 W w.heap.size na ao la ca po lp cp ∧ Boxed3 W (w.heap.size + 1) nb bo lb cb qo lq cq ∧ Fresh3 W (w.heap.size + 1 + 1) ∧ Below w.heap.size w W) := ⟨hT.a, hT.b, hT.r, hT.below⟩
 clear hx hy ha hb hle h0 hx0 hS IH hF hFi hle' hb0
 go_enter Tryz.func42, Tryz.ntmps42
 go_upto_region 5 with (first
  | (go_at_call 21; have _t := hb1; refine (qsign_any nb bo qo lb cb lq cq b _ (HX.out.2.later hb1) (by omega) 1 HSB.out).mono ?_; rintro e w2 ⟨rfl, hb2'⟩; have hb2 := bnext hb1 hb2'; clear hb2' p0 p1 p2 q0 q1 q2)
  | (go_at_call 21; rw [← hT.eq]; refine (qsign_any na ao po la ca lp cp a _ HX.out.1 (by omega) 1 HSA.out).mono ?_; rintro e w1 ⟨rfl, hb1⟩; obtain ⟨p0, p1, p2⟩ := HW.out.1.later hb1 (by omega); obtain ⟨q0, q1, q2⟩ := HW.out.2.1.later hb1 (by omega)))
 clear hT hb1
 obtain ⟨Y0, hY0⟩ : ∃ Y, Y = w2 := ⟨_, rfl⟩
 subst hY0
 have HB0 : Hid (Below W.heap.size W Y0) := hb2
 clear hb2
 go_cut [5] (fun s5 wx => ∃ r, s5 = .pointer (some ⟨r, 0, none⟩) ∧ IVar W wx r (F : Int))
 case first =>
  obtain ⟨p0, p1, p2⟩ := HW.out.1.later HB0.out (by omega)
  go_wp2_with (go_at_call 24; refine (qfloor_nn na ao po la ca lp cp a _ (HX.out.1.later HB0.out) (by omega) (by omega) (Int.le_of_lt HS.out.2.2.2.1)).mono ?_; rw [HF.out.2.1]; rintro e y ⟨n5, o5, l5, c5, rfl, hi, hb⟩; have HY : Hid (IntAt y n5 o5 l5 c5 (F : Int) ∧ Below W.heap.size W y) := ⟨hi, bnext HB0.out hb⟩; clear hi hb)
  go_meet
  exact ⟨_, rfl, iv_a HY.out.1 HY.out.2⟩
 case rest =>
  obtain ⟨r5, rfl, n5, o5, l5, c5, hb5, hi5, hr5, hlt5, hbZ⟩ := hcut
  obtain ⟨Z, hZ⟩ : ∃ Z, Z = wc := ⟨_, rfl⟩
  rw [← hZ] at hb5 hi5 hlt5 hbZ
  rw [← hZ]
  have H5 : Hid (Boxed Z r5 n5 o5 l5 c5 ∧ IntAt Z n5 o5 l5 c5 (F : Int) ∧ Below W.heap.size W Z) := ⟨hb5, hi5, hbZ⟩
  have hl5 : l5 ≤ 100 := by rw [hi5.row.hlen, Int.natAbs_natCast]; exact HF.out.2.2
  have hzZ := hbZ.size
  clear hZ hb5 hi5 hbZ HB0
  by_cases hd : a.den = 1
  ·
   have HE : Hid (x = a) := by
    obtain ⟨hS, hx0, _, ha0, _⟩ := HS.out
    obtain ⟨e1, e2⟩ := hS.wholes (by rw [hd]; exact Nat.mod_one _)
    rw [hd, Nat.div_one] at e1
    exact Rat.ext (by omega) (e2.trans hd.symm)
   have HD : Hid (decide (a.den = 1) = true) := decide_eq_true hd
   clear hd
   obtain ⟨p0, p1, p2⟩ := HW.out.1.later H5.out.2.2 (by omega)
   go_wp2_with (go_at_call 19; refine (isWhole_any na ao po la ca lp cp a.den _ (HX.out.1.den.later H5.out.2.2) true HD.out).mono ?_; rintro e y ⟨rfl, hb⟩; have HY : Hid (Below W.heap.size W y) := bnext H5.out.2.2 hb; clear hb p0 p1 p2; obtain ⟨p0, p1, p2⟩ := HW.out.1.later HY.out (by omega); obtain ⟨g5, g2, g3, g4⟩ := HW.out.2.2.1.later HY.out (by omega))
   rw [HE.out]
   exact bodyPost_ret (v := .agg #[.bool na, .slice ao la ca, .slice po lp cp]) (by simp [results, Tryz.results42, go_sem, g2, g3, g4]) rfl
    ⟨_, _, _, _, _, _, _, rfl, rat_kept (HX.out.1.later HY.out) ⟨g2, g3, g4⟩, below_store3 (bnext HW.out.2.2.2 HY.out) (by omega) _ _ _⟩
  ·
   have HD : Hid (decide (a.den = 1) = false) := decide_eq_false hd
   have HM : Hid (a.num.natAbs % a.den ≠ 0) := fun h => hd (den_one a h)
   clear hd
   obtain ⟨p0, p1, p2⟩ := HW.out.1.later H5.out.2.2 (by omega)
   go_upto_region 8 with (go_at_call 19; refine (isWhole_any na ao po la ca lp cp a.den _ (HX.out.1.den.later H5.out.2.2) false HD.out).mono ?_; rintro e y ⟨rfl, hb⟩; clear p0 p1 p2)
   obtain ⟨Y, hY⟩ : ∃ Y, Y = y := ⟨_, rfl⟩
   subst hY
   have HY : Hid (Boxed Y r5 n5 o5 l5 c5 ∧ IntAt Y n5 o5 l5 c5 (F : Int) ∧ Below W.heap.size W Y) := ⟨H5.out.1.later hb hlt5, H5.out.2.1.later hb, bnext H5.out.2.2 hb⟩
   have hlt5Y : r5 < Y.heap.size := Nat.lt_of_lt_of_le hlt5 hb.size
   have hzY := HY.out.2.2.size
   clear hb H5 HD hlt5 hzZ
   have KY : Hid (∀ w' : World, Below Y.heap.size Y w' → w'.cell? ⟨r5, 0, none⟩ = some (.bool n5) ∧ w'.cell? ⟨r5, 1, none⟩ = some (.slice o5 l5 c5)) := fun w' h => HY.out.1.later h hlt5Y
   go_cut [6] (fun s6 wx => ∃ r, s6 = .pointer (some ⟨r, 0, none⟩) ∧ NVar Y wx r (((F : Int) + 1 : Int) : Rat))
   case first =>
    refine wp_region_noPanic ?_
    refine wp_region_held_drew (S := fun w' => (w'.cell? ⟨r5, 0, none⟩ = some (.bool n5) ∧ w'.cell? ⟨r5, 1, none⟩ = some (.slice o5 l5 c5))) (by kernel_rfl) (by (try dsimp only); exact KY.out _ (Below.refl _ _).drew) (fun hHeld => ?_)
    refine wpAnyH_take (i := 0) (oi := Oper.mk (some 31) _ _ _ _ _) (v := ?_) rfl (by kernel_rfl) (by kernel_rfl) (by kernel_rfl) (fun _ _ _ h => h) (Or.inl ⟨by rfl, ?_⟩) (by assumption) ?_
    rotate_left
    ·
     (intro w hSw; (try dsimp only at hSw); go_simp <;> (try with_reducible rfl))
    (try simp only [Act.put, List.setIfInBounds_toArray, List.set_cons_zero, List.set_cons_succ])
    have hzU : Y.heap.size ≤ Y.drew.heap.size := Nat.le_refl _
    all_goals (first
     | (refine wpAnyH_ready (rs := [1]) (by decide +kernel) (by simp) ?_; refine AllReadyH.cons (o := Oper.mk (some 32) _ _ _ _ _) rfl (fun K hK => ?_) AllReadyH.nil)
     | (refine wpAnyH_ready (rs := [1, 4]) (by decide +kernel) (by simp) ?_; refine AllReadyH.cons (o := Oper.mk (some 32) _ _ _ _ _) rfl (fun K hK => ?_) (AllReadyH.cons (o := Oper.mk (some 6) _ _ _ _ _) rfl (fun K hK => ?_) AllReadyH.nil); rotate_left; (go_simp; clear hHeld; refine hK.out _ _ (by (try dsimp only); with_reducible (first | exact KY.out _ (Below.refl _ _).drew | exact KY.out _ (by assumption) | (refine KY.out _ ?_; (repeat (first | refine below_alloc ?_ (Nat.le_refl _) | refine Below.drew ?_ | refine below_set ?_ (by omega))); (first | exact Below.refl _ _)))) (fun hHeld => ?_); clear hK K; (try simp only [Act.put, List.setIfInBounds_toArray, List.set_cons_zero, List.set_cons_succ])); refine wpAnyH_ready (rs := [1]) (by decide +kernel) (by simp) ?_; refine AllReadyH.cons (o := Oper.mk (some 32) _ _ _ _ _) rfl (fun K hK => ?_) AllReadyH.nil))
    all_goals (go_simp; (go_at_call 46; refine with_held (S := fun w9 => Below Y.heap.size Y w9) (by show Below _ _ _; with_reducible ((repeat (first | refine below_alloc ?_ (Nat.le_refl _) | refine Below.drew ?_ | refine below_set ?_ (by omega))); (first | exact Below.refl _ _))) (fun hS => ?_); (first | (with_reducible refine with_held (S := fun w9 => Fresh3 w9 Y.heap.size) (Fresh3.drew' (Fresh3.new Y)) (fun FA => ?_)) | skip); refine (rfrom_any 1 _ (by decide) (by decide)).mono ?_; rintro e f1 ⟨n6, o6, l6, c6, rfl, hs, ho, hb⟩; have H1 : Hid (IntAt f1 n6 o6 l6 c6 1) := ho.int hs; have hl6 : l6 ≤ 1 := (by rw [ho.row.hlen]; decide); clear hs ho; have hbF1 : Below Y.heap.size Y f1 := bnext hS hb; have hzF1 := hbF1.size; (try replace FA := Fresh3.next FA hb); clear hS hb); (try go_wp2_with fail); clear hHeld; refine hK.out _ _ (by (try dsimp only); with_reducible (first | exact KY.out _ (Below.refl _ _).drew | exact KY.out _ (by assumption) | (refine KY.out _ ?_; (repeat (first | refine below_alloc ?_ (Nat.le_refl _) | refine Below.drew ?_ | refine below_set ?_ (by omega))); (first | exact hbF1 | exact Below.refl _ _)))) (fun hHeld => ?_); clear hK K; (try simp only [Act.put, List.setIfInBounds_toArray, List.set_cons_zero, List.set_cons_succ]))
    all_goals (first
     | (refine wpAnyH_ready (rs := [2]) (by decide +kernel) (by simp) ?_; refine AllReadyH.cons (o := Oper.mk (some 33) _ _ _ _ _) rfl (fun K hK => ?_) AllReadyH.nil)
     | (refine wpAnyH_ready (rs := [2, 4]) (by decide +kernel) (by simp) ?_; refine AllReadyH.cons (o := Oper.mk (some 33) _ _ _ _ _) rfl (fun K hK => ?_) (AllReadyH.cons (o := Oper.mk (some 6) _ _ _ _ _) rfl (fun K hK => ?_) AllReadyH.nil); rotate_left; (go_simp; clear hHeld; refine hK.out _ _ (by (try dsimp only); with_reducible (first | exact KY.out _ (Below.refl _ _).drew | exact KY.out _ (by assumption) | (refine KY.out _ ?_; (repeat (first | refine below_alloc ?_ (Nat.le_refl _) | refine Below.drew ?_ | refine below_set ?_ (by omega))); (first | exact hbF1 | exact Below.refl _ _)))) (fun hHeld => ?_); clear hK K; (try simp only [Act.put, List.setIfInBounds_toArray, List.set_cons_zero, List.set_cons_succ])); refine wpAnyH_ready (rs := [2]) (by decide +kernel) (by simp) ?_; refine AllReadyH.cons (o := Oper.mk (some 33) _ _ _ _ _) rfl (fun K hK => ?_) AllReadyH.nil))
    all_goals (go_simp; (go_at_call 45; refine with_held (S := fun w9 => Below Y.heap.size Y w9) (by show Below _ _ _; with_reducible ((repeat (first | refine below_alloc ?_ (Nat.le_refl _) | refine Below.drew ?_ | refine below_set ?_ (by omega))); (first | exact hbF1 | exact Below.refl _ _))) (fun hS => ?_); refine with_held (S := fun w9 => Below f1.heap.size f1 w9) (by show Below _ _ _; with_reducible ((repeat (refine below_alloc ?_ (Nat.le_refl _))); exact Below.refl _ _)) (fun hS2 => ?_); (first | (with_reducible refine with_held (S := fun w9 => Fresh3 w9 f1.heap.size) (Fresh3.new f1) (fun FA => ?_)) | skip); refine (rplus_any n5 n6 o5 o6 l5 c5 l6 c6 (F : Int) 1 _ (HY.out.2.1.later hS) (H1.out.later hS2) (by omega) (by omega)).mono ?_; rintro e f2 ⟨n7, o7, l7, c7, rfl, hi, hb⟩; have H2 : Hid (IntAt f2 n7 o7 l7 c7 ((F : Int) + 1)) := hi; clear hi; have hbF2 : Below Y.heap.size Y f2 := bnext hS hb; have hzF2 := hbF2.size; (try replace FA := Fresh3.next FA hb); clear hS hb hS2); (try go_wp2_with fail); clear hHeld; refine hK.out _ _ (by (try dsimp only); with_reducible (first | exact KY.out _ (Below.refl _ _).drew | exact KY.out _ (by assumption) | (refine KY.out _ ?_; (repeat (first | refine below_alloc ?_ (Nat.le_refl _) | refine Below.drew ?_ | refine below_set ?_ (by omega))); (first | exact hbF2 | exact hbF1 | exact Below.refl _ _)))) (fun hHeld => ?_); clear hK K; (try simp only [Act.put, List.setIfInBounds_toArray, List.set_cons_zero, List.set_cons_succ]))
    all_goals (first
     | (refine wpAnyH_ready (rs := [3]) (by decide +kernel) (by simp) ?_; refine AllReadyH.cons (o := Oper.mk (some 34) _ _ _ _ _) rfl (fun K hK => ?_) AllReadyH.nil)
     | (refine wpAnyH_ready (rs := [3, 4]) (by decide +kernel) (by simp) ?_; refine AllReadyH.cons (o := Oper.mk (some 34) _ _ _ _ _) rfl (fun K hK => ?_) (AllReadyH.cons (o := Oper.mk (some 6) _ _ _ _ _) rfl (fun K hK => ?_) AllReadyH.nil); rotate_left; (go_simp; clear hHeld; refine hK.out _ _ (by (try dsimp only); with_reducible (first | exact KY.out _ (Below.refl _ _).drew | exact KY.out _ (by assumption) | (refine KY.out _ ?_; (repeat (first | refine below_alloc ?_ (Nat.le_refl _) | refine Below.drew ?_ | refine below_set ?_ (by omega))); (first | exact hbF2 | exact hbF1 | exact Below.refl _ _)))) (fun hHeld => ?_); clear hK K; (try simp only [Act.put, List.setIfInBounds_toArray, List.set_cons_zero, List.set_cons_succ])); refine wpAnyH_ready (rs := [3]) (by decide +kernel) (by simp) ?_; refine AllReadyH.cons (o := Oper.mk (some 34) _ _ _ _ _) rfl (fun K hK => ?_) AllReadyH.nil))
    all_goals (go_simp; (go_at_call 26; refine with_held (S := fun w9 => Below Y.heap.size Y w9) (by show Below _ _ _; with_reducible ((repeat (first | refine below_alloc ?_ (Nat.le_refl _) | refine Below.drew ?_ | refine below_set ?_ (by omega))); (first | exact hbF2 | exact hbF1 | exact Below.refl _ _))) (fun hS => ?_); refine with_held (S := fun w9 => Below f2.heap.size f2 w9) (by show Below _ _ _; with_reducible ((repeat (refine below_alloc ?_ (Nat.le_refl _))); exact Below.refl _ _)) (fun hS2 => ?_); (first | (with_reducible refine with_held (S := fun w9 => Fresh3 w9 f2.heap.size) (Fresh3.new f2) (fun FA => ?_)) | skip); refine (qfrom_any n7 o7 l7 c7 _ _ (H2.out.row.later hS2)).mono ?_; rintro e f3 ⟨p8, m8, k8, rfl, hr, ho, hb⟩; have H3 : Hid (RatAt f3 n7 o7 l7 c7 p8 m8 k8 (((F : Int) + 1 : Int) : Rat)) := ⟨⟨H2.out.sg, hr⟩, ho.row⟩; clear hr ho; have hbF3 : Below Y.heap.size Y f3 := bnext hS hb; have hzF3 := hbF3.size; (try replace FA := Fresh3.next FA hb); clear hS hb hS2); (try go_wp2_with fail); clear hHeld; refine hK.out _ _ (by (try dsimp only); with_reducible (first | exact KY.out _ (Below.refl _ _).drew | exact KY.out _ (by assumption) | (refine KY.out _ ?_; (repeat (first | refine below_alloc ?_ (Nat.le_refl _) | refine Below.drew ?_ | refine below_set ?_ (by omega))); (first | exact hbF3 | exact hbF2 | exact hbF1 | exact Below.refl _ _)))) (fun hHeld => ?_); clear hK K; (try simp only [Act.put, List.setIfInBounds_toArray, List.set_cons_zero, List.set_cons_succ]))
    all_goals (first
     | (refine wpAnyH_ready (rs := [5]) (by decide +kernel) (by simp) ?_; refine AllReadyH.cons (o := Oper.mk none _ _ _ _ _) rfl (fun K hK => ?_) AllReadyH.nil)
     | (refine wpAnyH_ready (rs := [4]) (by decide +kernel) (by simp) ?_; refine AllReadyH.cons (o := Oper.mk (some 6) _ _ _ _ _) rfl (fun K hK => ?_) AllReadyH.nil; (go_simp; clear hHeld; refine hK.out _ _ (by (try dsimp only); with_reducible (first | exact KY.out _ (Below.refl _ _).drew | exact KY.out _ (by assumption) | (refine KY.out _ ?_; (repeat (first | refine below_alloc ?_ (Nat.le_refl _) | refine Below.drew ?_ | refine below_set ?_ (by omega))); (first | exact hbF3 | exact hbF2 | exact hbF1 | exact Below.refl _ _)))) (fun hHeld => ?_); clear hK K; (try simp only [Act.put, List.setIfInBounds_toArray, List.set_cons_zero, List.set_cons_succ])); refine wpAnyH_ready (rs := [5]) (by decide +kernel) (by simp) ?_; refine AllReadyH.cons (o := Oper.mk none _ _ _ _ _) rfl (fun K hK => ?_) AllReadyH.nil))
    all_goals (try (obtain ⟨a5, a2, a3, a4⟩ := FA))
    all_goals (go_simp; clear hHeld; refine hK.out _ _ (by (try dsimp only); with_reducible (first | exact KY.out _ (Below.refl _ _).drew | exact KY.out _ (by assumption) | (refine KY.out _ ?_; (repeat (first | refine below_alloc ?_ (Nat.le_refl _) | refine Below.drew ?_ | refine below_set ?_ (by omega))); (first | exact hbF3 | exact hbF2 | exact hbF1 | exact Below.refl _ _)))) (fun hHeld => ?_); clear hK K; (try simp only [Act.put, List.setIfInBounds_toArray, List.set_cons_zero, List.set_cons_succ]); refine wpAnyH_done (by kernel_rfl) ?_ _; refine NoPanic.normal ?_; go_wp2; go_meet; refine ⟨_, rfl, ?_⟩)
    all_goals (first
     | (with_reducible exact nvr_a H3 hbF3)
     | (with_reducible exact nvr_c H3 hbF3 a5 a2 a3 a4 (by omega)))
   case rest =>
    obtain ⟨r6, rfl, n6, o6, l6, c6, p6, m6, k6, hv6, hr6, hbZ⟩ := hcut
    obtain ⟨Z, hZ⟩ : ∃ Z, Z = wc := ⟨_, rfl⟩
    rw [← hZ] at hv6 hbZ
    rw [← hZ]
    have H6 : Hid (RVar Z r6 n6 o6 l6 c6 p6 m6 k6 (((F : Int) + 1 : Int) : Rat) ∧ (Boxed Z r5 n5 o5 l5 c5 ∧ IntAt Z n5 o5 l5 c5 (F : Int)) ∧ Below W.heap.size W Z) := ⟨hv6, ⟨HY.out.1.later hbZ hlt5Y, HY.out.2.1.later hbZ⟩, bnext HY.out.2.2 hbZ⟩
    have hlt5 : r5 < Z.heap.size := Nat.lt_of_lt_of_le hlt5Y hbZ.size
    have hzZ := H6.out.2.2.size
    have HSN : Hid (Sz (((F : Int) + 1 : Int) : Rat) 1000) := isz (by have q1 := add_len (F : Int) 1; have q2 := HF.out.2.2; rw [Int.natAbs_natCast] at q1; have q3 : (mag (1 : Int).natAbs).length = 1 := rfl; omega) (by decide)
    clear hZ hv6 hbZ HY KY hzY hlt5Y
    obtain ⟨q0, q1, q2⟩ := HW.out.2.1.later H6.out.2.2 (by omega)
    obtain ⟨x0, x1, x2⟩ := H6.out.1.box
    by_cases hff : F < b.num.natAbs / b.den
    ·
     have hc2 : cmpQ (((F : Int) + 1 : Int) : Rat) b = -1 ∨ cmpQ (((F : Int) + 1 : Int) : Rat) b = 0 := by
      have h1 : (F + 1) * b.den ≤ b.num.natAbs := (Nat.le_div_iff_mul_le b.den_pos).1 hff
      have h2 : ((F : Int) + 1) * (b.den : Int) ≤ b.num * ((1 : Nat) : Int) := by
       have h3 := Int.ofNat_le.2 h1
       rw [Int.natCast_mul, Int.natCast_add] at h3
       have := HS.out.2.2.2.2.1
       have e2 : ((b.num.natAbs : Nat) : Int) = b.num := by omega
       rw [e2] at h3
       simpa using h3
      show cmpI _ _ = -1 ∨ cmpI _ _ = 0
      unfold cmpI
      rcases Int.lt_or_eq_of_le h2 with h | h
      ·
       exact Or.inl (if_pos h)
      ·
       exact Or.inr ((if_neg (fun e => Int.ne_of_lt e h)).trans (if_neg (fun e => Int.ne_of_gt e h)))
     obtain ⟨c, hc⟩ : ∃ c, cmpQ (((F : Int) + 1 : Int) : Rat) b = c := ⟨_, rfl⟩
     rw [hc] at hc2
     have HC : Hid (cmpQ (((F : Int) + 1 : Int) : Rat) b = c) := hc
     have HE : Hid (x = (((F : Int) + 1 : Int) : Rat)) := by
      obtain ⟨hS, hx0, _⟩ := HS.out
      obtain ⟨e1, e2⟩ := hS.nexts HM.out (by rw [HF.out.1]; exact hff)
      rw [HF.out.1] at e1
      exact Rat.ext (show x.num = (F : Int) + 1 by omega) e2
     clear hc hff
     rcases hc2 with rfl | rfl
     all_goals
      go_wp2_with (go_at_call 28; refine (qcmp_any n6 nb o6 p6 bo qo l6 c6 m6 k6 lb cb lq cq (((F : Int) + 1 : Int) : Rat) b _ H6.out.1.rat (HX.out.2.later H6.out.2.2) HSN.out (HSz.out.2.mono (by decide)) _ HC.out).mono ?_; rintro e y ⟨rfl, hb⟩; have HY : Hid (Below W.heap.size W y) := bnext H6.out.2.2 hb; have HV : Hid (RVar y r6 n6 o6 l6 c6 p6 m6 k6 (((F : Int) + 1 : Int) : Rat)) := H6.out.1.later hb; have HV5 : Hid (Boxed y r5 n5 o5 l5 c5 ∧ IntAt y n5 o5 l5 c5 (F : Int) ∧ r5 < y.heap.size) := ⟨H6.out.2.1.1.later hb hlt5, H6.out.2.1.2.later hb, Nat.lt_of_lt_of_le hlt5 hb.size⟩; clear hb q0 q1 q2 x0 x1 x2; obtain ⟨x0, x1, x2⟩ := HV.out.box; obtain ⟨g5, g2, g3, g4⟩ := HW.out.2.2.1.later HY.out (by omega))
      rw [HE.out]
      exact bodyPost_ret (v := .agg #[.bool n6, .slice o6 l6 c6, .slice p6 m6 k6]) (by simp [results, Tryz.results42, go_sem, g2, g3, g4]) rfl
       ⟨_, _, _, _, _, _, _, rfl, rat_kept HV.out.rat ⟨g2, g3, g4⟩, below_store3 (bnext HW.out.2.2.2 HY.out) (by omega) _ _ _⟩
    ·
     have HC : Hid (cmpQ (((F : Int) + 1 : Int) : Rat) b = 1) := by
      have h1 : ¬ (F + 1) * b.den ≤ b.num.natAbs := fun h => hff ((Nat.le_div_iff_mul_le b.den_pos).2 h)
      have h2 : b.num * ((1 : Nat) : Int) < ((F : Int) + 1) * (b.den : Int) := by
       have h3 := Int.ofNat_lt.2 (Nat.lt_of_not_le h1)
       rw [Int.natCast_mul, Int.natCast_add] at h3
       have := HS.out.2.2.2.2.1
       have e2 : ((b.num.natAbs : Nat) : Int) = b.num := by omega
       rw [e2] at h3
       simpa using h3
      show cmpI _ _ = 1
      unfold cmpI
      exact (if_neg (fun e => Int.lt_irrefl _ (Int.lt_trans e h2))).trans (if_pos h2)
     obtain ⟨k', u', v', hk', hff', hS', hu', hv'⟩ := HS.out.1.turned' HM.out (by rw [HF.out.1]; exact hff)
     have hgs := left_pos b.den_pos HS.out.2.2.2.2.2 hff' HM.out
     have hfl := frac_left HS.out.2.2.2.2.2 hff'
     have hu0 := hS'.pos b.den_pos (Nat.pos_of_ne_zero HM.out)
     rw [HF.out.1] at hff' hu'
     obtain ⟨b', hb'⟩ : ∃ y : Rat, ((1 : Int) : Rat) / (b - (((F : Nat) : Int) : Rat)) = y := ⟨_, rfl⟩
     obtain ⟨a', ha'⟩ : ∃ y : Rat, ((1 : Int) : Rat) / (a - (((F : Nat) : Int) : Rat)) = y := ⟨_, rfl⟩
     have eb := inv_left (b := b) (s := b.den) (t := b.num.natAbs % b.den) (f := (F : Int)) rfl hgs (by have h1 := Nat.div_add_mod b.num.natAbs b.den; rw [hff'] at h1; have h2 := congrArg Int.ofNat h1; have e2 : ((b.num.natAbs : Nat) : Int) = b.num := (by have := HS.out.2.2.2.2.1; omega); simp only [Int.ofNat_eq_natCast, Int.natCast_add, Int.natCast_mul] at h2; rw [e2] at h2; rw [Int.mul_comm]; exact h2.symm) (by have := b.reduced; unfold Nat.Coprime at this; rw [Nat.gcd_comm, ← Nat.gcd_rec, Nat.gcd_comm]; exact this)
     have ea := inv_left (b := a) (s := a.den) (t := a.num.natAbs % a.den) (f := (F : Int)) rfl (Nat.pos_of_ne_zero HM.out) (by have h1 := Nat.div_add_mod a.num.natAbs a.den; rw [HF.out.1] at h1; have h2 := congrArg Int.ofNat h1; have e2 : ((a.num.natAbs : Nat) : Int) = a.num := (by have := HS.out.2.2.2.1; omega); simp only [Int.ofNat_eq_natCast, Int.natCast_add, Int.natCast_mul] at h2; rw [e2] at h2; rw [Int.mul_comm]; exact h2.symm) (by have := a.reduced; unfold Nat.Coprime at this; rw [Nat.gcd_comm, ← Nat.gcd_rec, Nat.gcd_comm]; exact this)
     rw [hb'] at eb
     rw [ha'] at ea
     obtain ⟨x', hx'⟩ : ∃ y : Rat, y = ⟨(u' : Int), v', by omega, hS'.coprime⟩ := ⟨_, rfl⟩
     have HT2 : Hid (((1 : Int) : Rat) / (b - (((F : Nat) : Int) : Rat)) = b' ∧ ((1 : Int) : Rat) / (a - (((F : Nat) : Int) : Rat)) = a') := ⟨hb', ha'⟩
     have HR : Hid (Sz b' 100 ∧ Sz a' 100 ∧ Sz x' 100 ∧ LeQ b' a' ∧ 0 < b'.num ∧ 0 < x'.num ∧ Simp k' b'.num.natAbs b'.den a'.num.natAbs a'.den x'.num.natAbs x'.den ∧ (b - (((F : Nat) : Int) : Rat)) ≠ 0 ∧ (a - (((F : Nat) : Int) : Rat)) ≠ 0 ∧ x' ≠ 0) := by
      have s1 : Sz b' 100 := by rw [eb]; exact ⟨HSz.out.2.2, Nat.le_trans (mag_len_mono (Nat.le_of_lt (Nat.mod_lt _ b.den_pos))) HSz.out.2.2⟩
      have s2 : Sz a' 100 := by rw [ea]; exact ⟨HSz.out.1.2, Nat.le_trans (mag_len_mono (Nat.le_of_lt (Nat.mod_lt _ a.den_pos))) HSz.out.1.2⟩
      have l1 : LeQ b' a' := by rw [eb, ea]; show (b.den : Int) * ((a.num.natAbs % a.den : Nat) : Int) ≤ (a.den : Int) * ((b.num.natAbs % b.den : Nat) : Int); rw [← Int.natCast_mul, ← Int.natCast_mul]; exact Int.ofNat_le.2 hfl
      have p1 : 0 < b'.num := by rw [eb]; exact Int.ofNat_lt.2 b.den_pos
      have p2 : 0 < x'.num := by rw [hx']; exact Int.ofNat_lt.2 hu0.1
      have t1 : Simp k' b'.num.natAbs b'.den a'.num.natAbs a'.den x'.num.natAbs x'.den := by rw [eb, ea, hx']; exact hS'
      have z : ∀ y : Rat, 0 < (((1 : Int) : Rat) / y).num → y ≠ 0 := fun y h e => by rw [e, Rat.div_def, Rat.inv_zero, Rat.mul_zero] at h; exact absurd h (by decide)
      refine ⟨s1, s2, SimpP.size l1 p1 ⟨p2, k', t1⟩ s1, l1, p1, p2, t1, z _ (by rw [hb']; exact p1), z _ (by rw [ha', ea]; exact Int.ofNat_lt.2 a.den_pos), fun e => by rw [e] at p2; exact absurd p2 (by decide)⟩
     have HXX : Hid ((((F : Nat) : Int) : Rat) + ((1 : Int) : Rat) / x' = x) := by
      have e1 : x'.num.natAbs = u' ∧ x'.den = v' := by rw [hx']; exact ⟨rfl, rfl⟩
      have e3 := HS.out.2.1
      have hc : Nat.gcd (F * x'.num.natAbs + x'.den) x'.num.natAbs = 1 := by rw [e1.1, e1.2, Nat.gcd_comm, Nat.gcd_mul_right_add_right]; exact hS'.coprime
      rw [add_inv HR.out.2.2.2.2.2.1 hc]
      refine Rat.ext ?_ ?_
      ·
       show ((F * x'.num.natAbs + x'.den : Nat) : Int) = x.num
       rw [e1.1, e1.2]; omega
      ·
       show x'.num.natAbs = x.den
       rw [e1.1, hv']
     have HK : Hid (k' < k) := hk'
     clear hff hff' hS' hu' hv' hgs hfl hu0 eb ea hb' ha' hx' hk'
     go_upto_region 11 with (go_at_call 28; refine (qcmp_any n6 nb o6 p6 bo qo l6 c6 m6 k6 lb cb lq cq (((F : Int) + 1 : Int) : Rat) b _ H6.out.1.rat (HX.out.2.later H6.out.2.2) HSN.out (HSz.out.2.mono (by decide)) 1 HC.out).mono ?_; rintro e y ⟨rfl, hb⟩; have HY : Hid (Below W.heap.size W y) := bnext H6.out.2.2 hb; have HV : Hid (RVar y r6 n6 o6 l6 c6 p6 m6 k6 (((F : Int) + 1 : Int) : Rat)) := H6.out.1.later hb; have HV5 : Hid (Boxed y r5 n5 o5 l5 c5 ∧ IntAt y n5 o5 l5 c5 (F : Int) ∧ r5 < y.heap.size) := ⟨H6.out.2.1.1.later hb hlt5, H6.out.2.1.2.later hb, Nat.lt_of_lt_of_le hlt5 hb.size⟩; clear hb q0 q1 q2 x0 x1 x2)
     obtain ⟨Y, hY⟩ : ∃ Y, Y = y := ⟨_, rfl⟩
     subst hY
     have hlt5Y := HV5.out.2.2
     have hzY := HY.out.size
     have HA : Hid (RatAt Y na ao la ca po lp cp a ∧ RatAt Y nb bo lb cb qo lq cq b) := ⟨HX.out.1.later HY.out, HX.out.2.later HY.out⟩
     have KY : Hid (∀ w' : World, Below Y.heap.size Y w' → w'.cell? ⟨w.heap.size, 0, none⟩ = some (.bool na) ∧ w'.cell? ⟨w.heap.size, 1, none⟩ = some (.slice ao la ca) ∧ w'.cell? ⟨w.heap.size, 2, none⟩ = some (.slice po lp cp) ∧ w'.cell? ⟨w.heap.size + 1, 0, none⟩ = some (.bool nb) ∧ w'.cell? ⟨w.heap.size + 1, 1, none⟩ = some (.slice bo lb cb) ∧ w'.cell? ⟨w.heap.size + 1, 2, none⟩ = some (.slice qo lq cq) ∧ w'.cell? ⟨r5, 0, none⟩ = some (.bool n5) ∧ w'.cell? ⟨r5, 1, none⟩ = some (.slice o5 l5 c5)) := fun w' h => (by obtain ⟨a0, a1, a2⟩ := HW.out.1.later (bnext HY.out h) (by omega); obtain ⟨b0, b1, b2⟩ := HW.out.2.1.later (bnext HY.out h) (by omega); obtain ⟨c0, c1⟩ := HV5.out.1.later h hlt5Y; exact ⟨a0, a1, a2, b0, b1, b2, c0, c1⟩)
     clear hlt5 hzZ H6 HV HC
     go_cut [7] (fun s7 wx => ∃ r, s7 = .pointer (some ⟨r, 0, none⟩) ∧ NVar Y wx r x')
     case first =>
      refine wp_region_noPanic ?_
      refine wp_region_held_drew (S := fun w' => (w'.cell? ⟨w.heap.size, 0, none⟩ = some (.bool na) ∧ w'.cell? ⟨w.heap.size, 1, none⟩ = some (.slice ao la ca) ∧ w'.cell? ⟨w.heap.size, 2, none⟩ = some (.slice po lp cp) ∧ w'.cell? ⟨w.heap.size + 1, 0, none⟩ = some (.bool nb) ∧ w'.cell? ⟨w.heap.size + 1, 1, none⟩ = some (.slice bo lb cb) ∧ w'.cell? ⟨w.heap.size + 1, 2, none⟩ = some (.slice qo lq cq) ∧ w'.cell? ⟨r5, 0, none⟩ = some (.bool n5) ∧ w'.cell? ⟨r5, 1, none⟩ = some (.slice o5 l5 c5))) (by kernel_rfl) (by (try dsimp only); exact KY.out _ (Below.refl _ _).drew) (fun hHeld => ?_)
      refine wpAnyH_take (i := 1) (oi := Oper.mk (some 41) _ _ _ _ _) (v := ?_) rfl (by kernel_rfl) (by kernel_rfl) (by kernel_rfl) (fun _ _ _ h => h) (Or.inl ⟨by rfl, ?_⟩) (by assumption) ?_
      rotate_left
      ·
       (intro w hSw; (try dsimp only at hSw); go_simp <;> (try with_reducible rfl))
      (try simp only [Act.put, List.setIfInBounds_toArray, List.set_cons_zero, List.set_cons_succ])
      refine wpAnyH_take (i := 2) (oi := Oper.mk (some 42) _ _ _ _ _) (v := ?_) rfl (by kernel_rfl) (by kernel_rfl) (by kernel_rfl) (fun _ _ _ h => h) (Or.inl ⟨by rfl, ?_⟩) (by assumption) ?_
      rotate_left
      ·
       (intro w hSw; (try dsimp only at hSw); go_simp <;> (try with_reducible rfl))
      (try simp only [Act.put, List.setIfInBounds_toArray, List.set_cons_zero, List.set_cons_succ])
      refine wpAnyH_take (i := 7) (oi := Oper.mk (some 47) _ _ _ _ _) (v := ?_) rfl (by kernel_rfl) (by kernel_rfl) (by kernel_rfl) (fun _ _ _ h => h) (Or.inl ⟨by rfl, ?_⟩) (by assumption) ?_
      rotate_left
      ·
       (intro w hSw; (try dsimp only at hSw); go_simp <;> (try with_reducible rfl))
      (try simp only [Act.put, List.setIfInBounds_toArray, List.set_cons_zero, List.set_cons_succ])
      refine wpAnyH_take (i := 8) (oi := Oper.mk (some 48) _ _ _ _ _) (v := ?_) rfl (by kernel_rfl) (by kernel_rfl) (by kernel_rfl) (fun _ _ _ h => h) (Or.inl ⟨by rfl, ?_⟩) (by assumption) ?_
      rotate_left
      ·
       (intro w hSw; (try dsimp only at hSw); go_simp <;> (try with_reducible rfl))
      (try simp only [Act.put, List.setIfInBounds_toArray, List.set_cons_zero, List.set_cons_succ])
      have hzU : Y.heap.size ≤ Y.drew.heap.size := Nat.le_refl _
      all_goals (first
       | (refine wpAnyH_ready (rs := [0]) (by decide +kernel) (by simp) ?_; refine AllReadyH.cons (o := Oper.mk (some 40) _ _ _ _ _) rfl (fun K hK => ?_) AllReadyH.nil)
       | (refine wpAnyH_ready (rs := [0, 13]) (by decide +kernel) (by simp) ?_; refine AllReadyH.cons (o := Oper.mk (some 40) _ _ _ _ _) rfl (fun K hK => ?_) (AllReadyH.cons (o := Oper.mk (some 7) _ _ _ _ _) rfl (fun K hK => ?_) AllReadyH.nil); rotate_left; (go_simp; clear hHeld; refine hK.out _ _ (by (try dsimp only); with_reducible (first | exact KY.out _ (Below.refl _ _).drew | exact KY.out _ (by assumption) | (refine KY.out _ ?_; (repeat (first | refine below_alloc ?_ (Nat.le_refl _) | refine Below.drew ?_ | refine below_set ?_ (by omega))); (first | exact Below.refl _ _)))) (fun hHeld => ?_); clear hK K; (try simp only [Act.put, List.setIfInBounds_toArray, List.set_cons_zero, List.set_cons_succ])); refine wpAnyH_ready (rs := [0]) (by decide +kernel) (by simp) ?_; refine AllReadyH.cons (o := Oper.mk (some 40) _ _ _ _ _) rfl (fun K hK => ?_) AllReadyH.nil))
      all_goals (go_simp; (go_at_call 44; refine with_held (S := fun w9 => Below Y.heap.size Y w9) (by show Below _ _ _; with_reducible ((repeat (first | refine below_alloc ?_ (Nat.le_refl _) | refine Below.drew ?_ | refine below_set ?_ (by omega))); (first | exact Below.refl _ _))) (fun hS => ?_); (first | (with_reducible refine with_held (S := fun w9 => Fresh3 w9 Y.heap.size) (Fresh3.drew' (Fresh3.new Y)) (fun FA => ?_)) | skip); refine (qint_any 1 _ (by decide) (by decide)).mono ?_; rintro e f1 ⟨n11, o11, l11, c11, p11, m11, k11, rfl, hr, hb⟩; have H1 : Hid (RatAt f1 n11 o11 l11 c11 p11 m11 k11 (((1 : Int) : Rat))) := hr; clear hr; have hbF1 : Below Y.heap.size Y f1 := bnext hS hb; have hzF1 := hbF1.size; (try replace FA := Fresh3.next FA hb); clear hS hb); (try go_wp2_with fail); clear hHeld; refine hK.out _ _ (by (try dsimp only); with_reducible (first | exact KY.out _ (Below.refl _ _).drew | exact KY.out _ (by assumption) | (refine KY.out _ ?_; (repeat (first | refine below_alloc ?_ (Nat.le_refl _) | refine Below.drew ?_ | refine below_set ?_ (by omega))); (first | exact hbF1 | exact Below.refl _ _)))) (fun hHeld => ?_); clear hK K; (try simp only [Act.put, List.setIfInBounds_toArray, List.set_cons_zero, List.set_cons_succ]))
      all_goals (first
       | (refine wpAnyH_ready (rs := [3]) (by decide +kernel) (by simp) ?_; refine AllReadyH.cons (o := Oper.mk (some 43) _ _ _ _ _) rfl (fun K hK => ?_) AllReadyH.nil)
       | (refine wpAnyH_ready (rs := [3, 13]) (by decide +kernel) (by simp) ?_; refine AllReadyH.cons (o := Oper.mk (some 43) _ _ _ _ _) rfl (fun K hK => ?_) (AllReadyH.cons (o := Oper.mk (some 7) _ _ _ _ _) rfl (fun K hK => ?_) AllReadyH.nil); rotate_left; (go_simp; clear hHeld; refine hK.out _ _ (by (try dsimp only); with_reducible (first | exact KY.out _ (Below.refl _ _).drew | exact KY.out _ (by assumption) | (refine KY.out _ ?_; (repeat (first | refine below_alloc ?_ (Nat.le_refl _) | refine Below.drew ?_ | refine below_set ?_ (by omega))); (first | exact hbF1 | exact Below.refl _ _)))) (fun hHeld => ?_); clear hK K; (try simp only [Act.put, List.setIfInBounds_toArray, List.set_cons_zero, List.set_cons_succ])); refine wpAnyH_ready (rs := [3]) (by decide +kernel) (by simp) ?_; refine AllReadyH.cons (o := Oper.mk (some 43) _ _ _ _ _) rfl (fun K hK => ?_) AllReadyH.nil))
      all_goals (go_simp; (go_at_call 26; refine with_held (S := fun w9 => Below Y.heap.size Y w9) (by show Below _ _ _; with_reducible ((repeat (first | refine below_alloc ?_ (Nat.le_refl _) | refine Below.drew ?_ | refine below_set ?_ (by omega))); (first | exact hbF1 | exact Below.refl _ _))) (fun hS => ?_); refine with_held (S := fun w9 => Below f1.heap.size f1 w9) (by show Below _ _ _; with_reducible ((repeat (refine below_alloc ?_ (Nat.le_refl _))); exact Below.refl _ _)) (fun hS2 => ?_); (first | (with_reducible refine with_held (S := fun w9 => Fresh3 w9 f1.heap.size) (Fresh3.new f1) (fun FA => ?_)) | skip); refine (qfrom_any n5 o5 l5 c5 _ _ (HV5.out.2.1.row.later hS)).mono ?_; rintro e f2 ⟨p12, m12, k12, rfl, hr, ho, hb⟩; have H2 : Hid (RatAt f2 n5 o5 l5 c5 p12 m12 k12 (((F : Nat) : Int) : Rat) ∧ RatAt f2 n11 o11 l11 c11 p11 m11 k11 (((1 : Int) : Rat))) := ⟨⟨⟨HV5.out.2.1.sg, hr⟩, ho.row⟩, H1.out.later (bnext hS2 hb)⟩; clear hr ho; have hbF2 : Below Y.heap.size Y f2 := bnext hS hb; have hzF2 := hbF2.size; (try replace FA := Fresh3.next FA hb); clear hS hb hS2); (try go_wp2_with fail); clear hHeld; refine hK.out _ _ (by (try dsimp only); with_reducible (first | exact KY.out _ (Below.refl _ _).drew | exact KY.out _ (by assumption) | (refine KY.out _ ?_; (repeat (first | refine below_alloc ?_ (Nat.le_refl _) | refine Below.drew ?_ | refine below_set ?_ (by omega))); (first | exact hbF2 | exact hbF1 | exact Below.refl _ _)))) (fun hHeld => ?_); clear hK K; (try simp only [Act.put, List.setIfInBounds_toArray, List.set_cons_zero, List.set_cons_succ]))
      all_goals (first
       | (refine wpAnyH_ready (rs := [4]) (by decide +kernel) (by simp) ?_; refine AllReadyH.cons (o := Oper.mk (some 44) _ _ _ _ _) rfl (fun K hK => ?_) AllReadyH.nil)
       | (refine wpAnyH_ready (rs := [4, 13]) (by decide +kernel) (by simp) ?_; refine AllReadyH.cons (o := Oper.mk (some 44) _ _ _ _ _) rfl (fun K hK => ?_) (AllReadyH.cons (o := Oper.mk (some 7) _ _ _ _ _) rfl (fun K hK => ?_) AllReadyH.nil); rotate_left; (go_simp; clear hHeld; refine hK.out _ _ (by (try dsimp only); with_reducible (first | exact KY.out _ (Below.refl _ _).drew | exact KY.out _ (by assumption) | (refine KY.out _ ?_; (repeat (first | refine below_alloc ?_ (Nat.le_refl _) | refine Below.drew ?_ | refine below_set ?_ (by omega))); (first | exact hbF2 | exact hbF1 | exact Below.refl _ _)))) (fun hHeld => ?_); clear hK K; (try simp only [Act.put, List.setIfInBounds_toArray, List.set_cons_zero, List.set_cons_succ])); refine wpAnyH_ready (rs := [4]) (by decide +kernel) (by simp) ?_; refine AllReadyH.cons (o := Oper.mk (some 44) _ _ _ _ _) rfl (fun K hK => ?_) AllReadyH.nil))
      all_goals (go_simp; (go_at_call 89; refine with_held (S := fun w9 => Below Y.heap.size Y w9) (by show Below _ _ _; with_reducible ((repeat (first | refine below_alloc ?_ (Nat.le_refl _) | refine Below.drew ?_ | refine below_set ?_ (by omega))); (first | exact hbF2 | exact hbF1 | exact Below.refl _ _))) (fun hS => ?_); refine with_held (S := fun w9 => Below f2.heap.size f2 w9) (by show Below _ _ _; with_reducible ((repeat (refine below_alloc ?_ (Nat.le_refl _))); exact Below.refl _ _)) (fun hS2 => ?_); (first | (with_reducible refine with_held (S := fun w9 => Fresh3 w9 f2.heap.size) (Fresh3.new f2) (fun FA => ?_)) | skip); refine (qless_any nb n5 bo qo o5 p12 lb cb lq cq l5 c5 m12 k12 b (((F : Nat) : Int) : Rat) _ (HA.out.2.later hS) (H2.out.1.later hS2) (HSz.out.2.mono (by decide)) (isz (v := (F : Int)) (k := 1000) (by rw [Int.natAbs_natCast]; have := HF.out.2.2; omega) (by decide))).mono ?_; rintro e f3 ⟨n13, o13, l13, c13, p13, m13, k13, rfl, hr, hb⟩; have H3 : Hid (RatAt f3 n13 o13 l13 c13 p13 m13 k13 (b - (((F : Nat) : Int) : Rat)) ∧ RatAt f3 n11 o11 l11 c11 p11 m11 k11 (((1 : Int) : Rat))) := ⟨hr, H2.out.2.later (bnext hS2 hb)⟩; clear hr; have hbF3 : Below Y.heap.size Y f3 := bnext hS hb; have hzF3 := hbF3.size; (try replace FA := Fresh3.next FA hb); clear hS hb hS2); (try go_wp2_with fail); clear hHeld; refine hK.out _ _ (by (try dsimp only); with_reducible (first | exact KY.out _ (Below.refl _ _).drew | exact KY.out _ (by assumption) | (refine KY.out _ ?_; (repeat (first | refine below_alloc ?_ (Nat.le_refl _) | refine Below.drew ?_ | refine below_set ?_ (by omega))); (first | exact hbF3 | exact hbF2 | exact hbF1 | exact Below.refl _ _)))) (fun hHeld => ?_); clear hK K; (try simp only [Act.put, List.setIfInBounds_toArray, List.set_cons_zero, List.set_cons_succ]))
      all_goals (first
       | (refine wpAnyH_ready (rs := [5]) (by decide +kernel) (by simp) ?_; refine AllReadyH.cons (o := Oper.mk (some 45) _ _ _ _ _) rfl (fun K hK => ?_) AllReadyH.nil)
       | (refine wpAnyH_ready (rs := [5, 13]) (by decide +kernel) (by simp) ?_; refine AllReadyH.cons (o := Oper.mk (some 45) _ _ _ _ _) rfl (fun K hK => ?_) (AllReadyH.cons (o := Oper.mk (some 7) _ _ _ _ _) rfl (fun K hK => ?_) AllReadyH.nil); rotate_left; (go_simp; clear hHeld; refine hK.out _ _ (by (try dsimp only); with_reducible (first | exact KY.out _ (Below.refl _ _).drew | exact KY.out _ (by assumption) | (refine KY.out _ ?_; (repeat (first | refine below_alloc ?_ (Nat.le_refl _) | refine Below.drew ?_ | refine below_set ?_ (by omega))); (first | exact hbF3 | exact hbF2 | exact hbF1 | exact Below.refl _ _)))) (fun hHeld => ?_); clear hK K; (try simp only [Act.put, List.setIfInBounds_toArray, List.set_cons_zero, List.set_cons_succ])); refine wpAnyH_ready (rs := [5]) (by decide +kernel) (by simp) ?_; refine AllReadyH.cons (o := Oper.mk (some 45) _ _ _ _ _) rfl (fun K hK => ?_) AllReadyH.nil))
      all_goals (go_simp; (go_at_call 88; refine with_held (S := fun w9 => Below Y.heap.size Y w9) (by show Below _ _ _; with_reducible ((repeat (first | refine below_alloc ?_ (Nat.le_refl _) | refine Below.drew ?_ | refine below_set ?_ (by omega))); (first | exact hbF3 | exact hbF2 | exact hbF1 | exact Below.refl _ _))) (fun hS => ?_); refine with_held (S := fun w9 => Below f3.heap.size f3 w9) (by show Below _ _ _; with_reducible ((repeat (refine below_alloc ?_ (Nat.le_refl _))); exact Below.refl _ _)) (fun hS2 => ?_); (first | (with_reducible refine with_held (S := fun w9 => Fresh3 w9 f3.heap.size) (Fresh3.new f3) (fun FA => ?_)) | skip); refine (qover_any n11 n13 o11 p11 o13 p13 l11 c11 m11 k11 l13 c13 m13 k13 ((1 : Int) : Rat) (b - (((F : Nat) : Int) : Rat)) _ (H3.out.2.later hS2) (H3.out.1.later hS2) one_sz (by rw [Rat.sub_eq_add_neg]; exact ((HSz.out.2.add (isz (v := (F : Int)) (k := 100) (by rw [Int.natAbs_natCast]; exact HF.out.2.2) (by decide)).neg).mono (by decide))) HR.out.2.2.2.2.2.2.2.1).mono ?_; rintro e f4 ⟨n14, o14, l14, c14, p14, m14, k14, rfl, hr, hb⟩; rw [HT2.out.1] at hr; have H4 : Hid (RatAt f4 n14 o14 l14 c14 p14 m14 k14 b') := hr; clear hr; have hbF4 : Below Y.heap.size Y f4 := bnext hS hb; have hzF4 := hbF4.size; (try replace FA := Fresh3.next FA hb); clear hS hb hS2); (try go_wp2_with fail); clear hHeld; refine hK.out _ _ (by (try dsimp only); with_reducible (first | exact KY.out _ (Below.refl _ _).drew | exact KY.out _ (by assumption) | (refine KY.out _ ?_; (repeat (first | refine below_alloc ?_ (Nat.le_refl _) | refine Below.drew ?_ | refine below_set ?_ (by omega))); (first | exact hbF4 | exact hbF3 | exact hbF2 | exact hbF1 | exact Below.refl _ _)))) (fun hHeld => ?_); clear hK K; (try simp only [Act.put, List.setIfInBounds_toArray, List.set_cons_zero, List.set_cons_succ]))
      all_goals (first
       | (refine wpAnyH_ready (rs := [6]) (by decide +kernel) (by simp) ?_; refine AllReadyH.cons (o := Oper.mk (some 46) _ _ _ _ _) rfl (fun K hK => ?_) AllReadyH.nil)
       | (refine wpAnyH_ready (rs := [6, 13]) (by decide +kernel) (by simp) ?_; refine AllReadyH.cons (o := Oper.mk (some 46) _ _ _ _ _) rfl (fun K hK => ?_) (AllReadyH.cons (o := Oper.mk (some 7) _ _ _ _ _) rfl (fun K hK => ?_) AllReadyH.nil); rotate_left; (go_simp; clear hHeld; refine hK.out _ _ (by (try dsimp only); with_reducible (first | exact KY.out _ (Below.refl _ _).drew | exact KY.out _ (by assumption) | (refine KY.out _ ?_; (repeat (first | refine below_alloc ?_ (Nat.le_refl _) | refine Below.drew ?_ | refine below_set ?_ (by omega))); (first | exact hbF4 | exact hbF3 | exact hbF2 | exact hbF1 | exact Below.refl _ _)))) (fun hHeld => ?_); clear hK K; (try simp only [Act.put, List.setIfInBounds_toArray, List.set_cons_zero, List.set_cons_succ])); refine wpAnyH_ready (rs := [6]) (by decide +kernel) (by simp) ?_; refine AllReadyH.cons (o := Oper.mk (some 46) _ _ _ _ _) rfl (fun K hK => ?_) AllReadyH.nil))
      all_goals (go_simp; (go_at_call 44; refine with_held (S := fun w9 => Below Y.heap.size Y w9) (by show Below _ _ _; with_reducible ((repeat (first | refine below_alloc ?_ (Nat.le_refl _) | refine Below.drew ?_ | refine below_set ?_ (by omega))); (first | exact hbF4 | exact hbF3 | exact hbF2 | exact hbF1 | exact Below.refl _ _))) (fun hS => ?_); refine with_held (S := fun w9 => Below f4.heap.size f4 w9) (by show Below _ _ _; with_reducible ((repeat (refine below_alloc ?_ (Nat.le_refl _))); exact Below.refl _ _)) (fun hS2 => ?_); (first | (with_reducible refine with_held (S := fun w9 => Fresh3 w9 f4.heap.size) (Fresh3.new f4) (fun FA => ?_)) | skip); refine (qint_any 1 _ (by decide) (by decide)).mono ?_; rintro e f5 ⟨n15, o15, l15, c15, p15, m15, k15, rfl, hr, hb⟩; have H5 : Hid (RatAt f5 n15 o15 l15 c15 p15 m15 k15 (((1 : Int) : Rat)) ∧ RatAt f5 n14 o14 l14 c14 p14 m14 k14 (b')) := ⟨hr, H4.out.later (bnext hS2 hb)⟩; clear hr; have hbF5 : Below Y.heap.size Y f5 := bnext hS hb; have hzF5 := hbF5.size; (try replace FA := Fresh3.next FA hb); clear hS hb hS2); (try go_wp2_with fail); clear hHeld; refine hK.out _ _ (by (try dsimp only); with_reducible (first | exact KY.out _ (Below.refl _ _).drew | exact KY.out _ (by assumption) | (refine KY.out _ ?_; (repeat (first | refine below_alloc ?_ (Nat.le_refl _) | refine Below.drew ?_ | refine below_set ?_ (by omega))); (first | exact hbF5 | exact hbF4 | exact hbF3 | exact hbF2 | exact hbF1 | exact Below.refl _ _)))) (fun hHeld => ?_); clear hK K; (try simp only [Act.put, List.setIfInBounds_toArray, List.set_cons_zero, List.set_cons_succ]))
      all_goals (first
       | (refine wpAnyH_ready (rs := [9]) (by decide +kernel) (by simp) ?_; refine AllReadyH.cons (o := Oper.mk (some 49) _ _ _ _ _) rfl (fun K hK => ?_) AllReadyH.nil)
       | (refine wpAnyH_ready (rs := [9, 13]) (by decide +kernel) (by simp) ?_; refine AllReadyH.cons (o := Oper.mk (some 49) _ _ _ _ _) rfl (fun K hK => ?_) (AllReadyH.cons (o := Oper.mk (some 7) _ _ _ _ _) rfl (fun K hK => ?_) AllReadyH.nil); rotate_left; (go_simp; clear hHeld; refine hK.out _ _ (by (try dsimp only); with_reducible (first | exact KY.out _ (Below.refl _ _).drew | exact KY.out _ (by assumption) | (refine KY.out _ ?_; (repeat (first | refine below_alloc ?_ (Nat.le_refl _) | refine Below.drew ?_ | refine below_set ?_ (by omega))); (first | exact hbF5 | exact hbF4 | exact hbF3 | exact hbF2 | exact hbF1 | exact Below.refl _ _)))) (fun hHeld => ?_); clear hK K; (try simp only [Act.put, List.setIfInBounds_toArray, List.set_cons_zero, List.set_cons_succ])); refine wpAnyH_ready (rs := [9]) (by decide +kernel) (by simp) ?_; refine AllReadyH.cons (o := Oper.mk (some 49) _ _ _ _ _) rfl (fun K hK => ?_) AllReadyH.nil))
      all_goals (go_simp; (go_at_call 26; refine with_held (S := fun w9 => Below Y.heap.size Y w9) (by show Below _ _ _; with_reducible ((repeat (first | refine below_alloc ?_ (Nat.le_refl _) | refine Below.drew ?_ | refine below_set ?_ (by omega))); (first | exact hbF5 | exact hbF4 | exact hbF3 | exact hbF2 | exact hbF1 | exact Below.refl _ _))) (fun hS => ?_); refine with_held (S := fun w9 => Below f5.heap.size f5 w9) (by show Below _ _ _; with_reducible ((repeat (refine below_alloc ?_ (Nat.le_refl _))); exact Below.refl _ _)) (fun hS2 => ?_); (first | (with_reducible refine with_held (S := fun w9 => Fresh3 w9 f5.heap.size) (Fresh3.new f5) (fun FA => ?_)) | skip); refine (qfrom_any n5 o5 l5 c5 _ _ (HV5.out.2.1.row.later hS)).mono ?_; rintro e f6 ⟨p16, m16, k16, rfl, hr, ho, hb⟩; have H6 : Hid (RatAt f6 n5 o5 l5 c5 p16 m16 k16 (((F : Nat) : Int) : Rat) ∧ RatAt f6 n15 o15 l15 c15 p15 m15 k15 (((1 : Int) : Rat)) ∧ RatAt f6 n14 o14 l14 c14 p14 m14 k14 (b')) := ⟨⟨⟨HV5.out.2.1.sg, hr⟩, ho.row⟩, H5.out.1.later (bnext hS2 hb), H5.out.2.later (bnext hS2 hb)⟩; clear hr ho; have hbF6 : Below Y.heap.size Y f6 := bnext hS hb; have hzF6 := hbF6.size; (try replace FA := Fresh3.next FA hb); clear hS hb hS2); (try go_wp2_with fail); clear hHeld; refine hK.out _ _ (by (try dsimp only); with_reducible (first | exact KY.out _ (Below.refl _ _).drew | exact KY.out _ (by assumption) | (refine KY.out _ ?_; (repeat (first | refine below_alloc ?_ (Nat.le_refl _) | refine Below.drew ?_ | refine below_set ?_ (by omega))); (first | exact hbF6 | exact hbF5 | exact hbF4 | exact hbF3 | exact hbF2 | exact hbF1 | exact Below.refl _ _)))) (fun hHeld => ?_); clear hK K; (try simp only [Act.put, List.setIfInBounds_toArray, List.set_cons_zero, List.set_cons_succ]))
      all_goals (first
       | (refine wpAnyH_ready (rs := [10]) (by decide +kernel) (by simp) ?_; refine AllReadyH.cons (o := Oper.mk (some 50) _ _ _ _ _) rfl (fun K hK => ?_) AllReadyH.nil)
       | (refine wpAnyH_ready (rs := [10, 13]) (by decide +kernel) (by simp) ?_; refine AllReadyH.cons (o := Oper.mk (some 50) _ _ _ _ _) rfl (fun K hK => ?_) (AllReadyH.cons (o := Oper.mk (some 7) _ _ _ _ _) rfl (fun K hK => ?_) AllReadyH.nil); rotate_left; (go_simp; clear hHeld; refine hK.out _ _ (by (try dsimp only); with_reducible (first | exact KY.out _ (Below.refl _ _).drew | exact KY.out _ (by assumption) | (refine KY.out _ ?_; (repeat (first | refine below_alloc ?_ (Nat.le_refl _) | refine Below.drew ?_ | refine below_set ?_ (by omega))); (first | exact hbF6 | exact hbF5 | exact hbF4 | exact hbF3 | exact hbF2 | exact hbF1 | exact Below.refl _ _)))) (fun hHeld => ?_); clear hK K; (try simp only [Act.put, List.setIfInBounds_toArray, List.set_cons_zero, List.set_cons_succ])); refine wpAnyH_ready (rs := [10]) (by decide +kernel) (by simp) ?_; refine AllReadyH.cons (o := Oper.mk (some 50) _ _ _ _ _) rfl (fun K hK => ?_) AllReadyH.nil))
      all_goals (go_simp; (go_at_call 89; refine with_held (S := fun w9 => Below Y.heap.size Y w9) (by show Below _ _ _; with_reducible ((repeat (first | refine below_alloc ?_ (Nat.le_refl _) | refine Below.drew ?_ | refine below_set ?_ (by omega))); (first | exact hbF6 | exact hbF5 | exact hbF4 | exact hbF3 | exact hbF2 | exact hbF1 | exact Below.refl _ _))) (fun hS => ?_); refine with_held (S := fun w9 => Below f6.heap.size f6 w9) (by show Below _ _ _; with_reducible ((repeat (refine below_alloc ?_ (Nat.le_refl _))); exact Below.refl _ _)) (fun hS2 => ?_); (first | (with_reducible refine with_held (S := fun w9 => Fresh3 w9 f6.heap.size) (Fresh3.new f6) (fun FA => ?_)) | skip); refine (qless_any na n5 ao po o5 p16 la ca lp cp l5 c5 m16 k16 a (((F : Nat) : Int) : Rat) _ (HA.out.1.later hS) (H6.out.1.later hS2) (HSz.out.1.mono (by decide)) (isz (v := (F : Int)) (k := 1000) (by rw [Int.natAbs_natCast]; have := HF.out.2.2; omega) (by decide))).mono ?_; rintro e f7 ⟨n17, o17, l17, c17, p17, m17, k17, rfl, hr, hb⟩; have H7 : Hid (RatAt f7 n17 o17 l17 c17 p17 m17 k17 (a - (((F : Nat) : Int) : Rat)) ∧ RatAt f7 n15 o15 l15 c15 p15 m15 k15 (((1 : Int) : Rat)) ∧ RatAt f7 n14 o14 l14 c14 p14 m14 k14 (b')) := ⟨hr, H6.out.2.1.later (bnext hS2 hb), H6.out.2.2.later (bnext hS2 hb)⟩; clear hr; have hbF7 : Below Y.heap.size Y f7 := bnext hS hb; have hzF7 := hbF7.size; (try replace FA := Fresh3.next FA hb); clear hS hb hS2); (try go_wp2_with fail); clear hHeld; refine hK.out _ _ (by (try dsimp only); with_reducible (first | exact KY.out _ (Below.refl _ _).drew | exact KY.out _ (by assumption) | (refine KY.out _ ?_; (repeat (first | refine below_alloc ?_ (Nat.le_refl _) | refine Below.drew ?_ | refine below_set ?_ (by omega))); (first | exact hbF7 | exact hbF6 | exact hbF5 | exact hbF4 | exact hbF3 | exact hbF2 | exact hbF1 | exact Below.refl _ _)))) (fun hHeld => ?_); clear hK K; (try simp only [Act.put, List.setIfInBounds_toArray, List.set_cons_zero, List.set_cons_succ]))
      all_goals (first
       | (refine wpAnyH_ready (rs := [11]) (by decide +kernel) (by simp) ?_; refine AllReadyH.cons (o := Oper.mk (some 51) _ _ _ _ _) rfl (fun K hK => ?_) AllReadyH.nil)
       | (refine wpAnyH_ready (rs := [11, 13]) (by decide +kernel) (by simp) ?_; refine AllReadyH.cons (o := Oper.mk (some 51) _ _ _ _ _) rfl (fun K hK => ?_) (AllReadyH.cons (o := Oper.mk (some 7) _ _ _ _ _) rfl (fun K hK => ?_) AllReadyH.nil); rotate_left; (go_simp; clear hHeld; refine hK.out _ _ (by (try dsimp only); with_reducible (first | exact KY.out _ (Below.refl _ _).drew | exact KY.out _ (by assumption) | (refine KY.out _ ?_; (repeat (first | refine below_alloc ?_ (Nat.le_refl _) | refine Below.drew ?_ | refine below_set ?_ (by omega))); (first | exact hbF7 | exact hbF6 | exact hbF5 | exact hbF4 | exact hbF3 | exact hbF2 | exact hbF1 | exact Below.refl _ _)))) (fun hHeld => ?_); clear hK K; (try simp only [Act.put, List.setIfInBounds_toArray, List.set_cons_zero, List.set_cons_succ])); refine wpAnyH_ready (rs := [11]) (by decide +kernel) (by simp) ?_; refine AllReadyH.cons (o := Oper.mk (some 51) _ _ _ _ _) rfl (fun K hK => ?_) AllReadyH.nil))
      all_goals (go_simp; (go_at_call 88; refine with_held (S := fun w9 => Below Y.heap.size Y w9) (by show Below _ _ _; with_reducible ((repeat (first | refine below_alloc ?_ (Nat.le_refl _) | refine Below.drew ?_ | refine below_set ?_ (by omega))); (first | exact hbF7 | exact hbF6 | exact hbF5 | exact hbF4 | exact hbF3 | exact hbF2 | exact hbF1 | exact Below.refl _ _))) (fun hS => ?_); refine with_held (S := fun w9 => Below f7.heap.size f7 w9) (by show Below _ _ _; with_reducible ((repeat (refine below_alloc ?_ (Nat.le_refl _))); exact Below.refl _ _)) (fun hS2 => ?_); (first | (with_reducible refine with_held (S := fun w9 => Fresh3 w9 f7.heap.size) (Fresh3.new f7) (fun FA => ?_)) | skip); refine (qover_any n15 n17 o15 p15 o17 p17 l15 c15 m15 k15 l17 c17 m17 k17 ((1 : Int) : Rat) (a - (((F : Nat) : Int) : Rat)) _ (H7.out.2.1.later hS2) (H7.out.1.later hS2) one_sz (by rw [Rat.sub_eq_add_neg]; exact ((HSz.out.1.add (isz (v := (F : Int)) (k := 100) (by rw [Int.natAbs_natCast]; exact HF.out.2.2) (by decide)).neg).mono (by decide))) HR.out.2.2.2.2.2.2.2.2.1).mono ?_; rintro e f8 ⟨n18, o18, l18, c18, p18, m18, k18, rfl, hr, hb⟩; rw [HT2.out.2] at hr; have H8 : Hid (RatAt f8 n18 o18 l18 c18 p18 m18 k18 a' ∧ RatAt f8 n14 o14 l14 c14 p14 m14 k14 b') := ⟨hr, H7.out.2.2.later (bnext hS2 hb)⟩; clear hr; have hbF8 : Below Y.heap.size Y f8 := bnext hS hb; have hzF8 := hbF8.size; (try replace FA := Fresh3.next FA hb); clear hS hb hS2); (try go_wp2_with fail); clear hHeld; refine hK.out _ _ (by (try dsimp only); with_reducible (first | exact KY.out _ (Below.refl _ _).drew | exact KY.out _ (by assumption) | (refine KY.out _ ?_; (repeat (first | refine below_alloc ?_ (Nat.le_refl _) | refine Below.drew ?_ | refine below_set ?_ (by omega))); (first | exact hbF8 | exact hbF7 | exact hbF6 | exact hbF5 | exact hbF4 | exact hbF3 | exact hbF2 | exact hbF1 | exact Below.refl _ _)))) (fun hHeld => ?_); clear hK K; (try simp only [Act.put, List.setIfInBounds_toArray, List.set_cons_zero, List.set_cons_succ]))
      all_goals (first
       | (refine wpAnyH_ready (rs := [12]) (by decide +kernel) (by simp) ?_; refine AllReadyH.cons (o := Oper.mk (some 52) _ _ _ _ _) rfl (fun K hK => ?_) AllReadyH.nil)
       | (refine wpAnyH_ready (rs := [12, 13]) (by decide +kernel) (by simp) ?_; refine AllReadyH.cons (o := Oper.mk (some 52) _ _ _ _ _) rfl (fun K hK => ?_) (AllReadyH.cons (o := Oper.mk (some 7) _ _ _ _ _) rfl (fun K hK => ?_) AllReadyH.nil); rotate_left; (go_simp; clear hHeld; refine hK.out _ _ (by (try dsimp only); with_reducible (first | exact KY.out _ (Below.refl _ _).drew | exact KY.out _ (by assumption) | (refine KY.out _ ?_; (repeat (first | refine below_alloc ?_ (Nat.le_refl _) | refine Below.drew ?_ | refine below_set ?_ (by omega))); (first | exact hbF8 | exact hbF7 | exact hbF6 | exact hbF5 | exact hbF4 | exact hbF3 | exact hbF2 | exact hbF1 | exact Below.refl _ _)))) (fun hHeld => ?_); clear hK K; (try simp only [Act.put, List.setIfInBounds_toArray, List.set_cons_zero, List.set_cons_succ])); refine wpAnyH_ready (rs := [12]) (by decide +kernel) (by simp) ?_; refine AllReadyH.cons (o := Oper.mk (some 52) _ _ _ _ _) rfl (fun K hK => ?_) AllReadyH.nil))
      all_goals (go_simp; (go_at_call 42; refine with_held (S := fun w9 => Below Y.heap.size Y w9) (by show Below _ _ _; with_reducible ((repeat (first | refine below_alloc ?_ (Nat.le_refl _) | refine Below.drew ?_ | refine below_set ?_ (by omega))); (first | exact hbF8 | exact hbF7 | exact hbF6 | exact hbF5 | exact hbF4 | exact hbF3 | exact hbF2 | exact hbF1 | exact Below.refl _ _))) (fun hS => ?_); refine with_held (S := fun w9 => Below f8.heap.size f8 w9) (by show Below _ _ _; with_reducible ((repeat (refine below_alloc ?_ (Nat.le_refl _))); exact Below.refl _ _)) (fun hS2 => ?_); (first | (with_reducible refine with_held (S := fun w9 => Fresh3 w9 f8.heap.size) (Fresh3.new f8) (fun FA => ?_)) | skip); refine (HIH.out k' HK.out n14 n18 o14 p14 o18 p18 l14 c14 m14 k14 l18 c18 m18 k18 b' a' x' _ (H8.out.2.later hS2) (H8.out.1.later hS2) HR.out.1 HR.out.2.1 HR.out.2.2.2.1 HR.out.2.2.2.2.1 HR.out.2.2.2.2.2.1 HR.out.2.2.2.2.2.2.1).mono ?_; rintro e f9 ⟨n19, o19, l19, c19, p19, m19, k19, rfl, hr, hb⟩; have H9 : Hid (RatAt f9 n19 o19 l19 c19 p19 m19 k19 (x')) := hr; clear hr; have hbF9 : Below Y.heap.size Y f9 := bnext hS hb; have hzF9 := hbF9.size; (try replace FA := Fresh3.next FA hb); clear hS hb hS2); (try go_wp2_with fail); clear hHeld; refine hK.out _ _ (by (try dsimp only); with_reducible (first | exact KY.out _ (Below.refl _ _).drew | exact KY.out _ (by assumption) | (refine KY.out _ ?_; (repeat (first | refine below_alloc ?_ (Nat.le_refl _) | refine Below.drew ?_ | refine below_set ?_ (by omega))); (first | exact hbF9 | exact hbF8 | exact hbF7 | exact hbF6 | exact hbF5 | exact hbF4 | exact hbF3 | exact hbF2 | exact hbF1 | exact Below.refl _ _)))) (fun hHeld => ?_); clear hK K; (try simp only [Act.put, List.setIfInBounds_toArray, List.set_cons_zero, List.set_cons_succ]))
      all_goals (first
       | (refine wpAnyH_ready (rs := [14]) (by decide +kernel) (by simp) ?_; refine AllReadyH.cons (o := Oper.mk none _ _ _ _ _) rfl (fun K hK => ?_) AllReadyH.nil)
       | (refine wpAnyH_ready (rs := [13]) (by decide +kernel) (by simp) ?_; refine AllReadyH.cons (o := Oper.mk (some 7) _ _ _ _ _) rfl (fun K hK => ?_) AllReadyH.nil; (go_simp; clear hHeld; refine hK.out _ _ (by (try dsimp only); with_reducible (first | exact KY.out _ (Below.refl _ _).drew | exact KY.out _ (by assumption) | (refine KY.out _ ?_; (repeat (first | refine below_alloc ?_ (Nat.le_refl _) | refine Below.drew ?_ | refine below_set ?_ (by omega))); (first | exact hbF9 | exact hbF8 | exact hbF7 | exact hbF6 | exact hbF5 | exact hbF4 | exact hbF3 | exact hbF2 | exact hbF1 | exact Below.refl _ _)))) (fun hHeld => ?_); clear hK K; (try simp only [Act.put, List.setIfInBounds_toArray, List.set_cons_zero, List.set_cons_succ])); refine wpAnyH_ready (rs := [14]) (by decide +kernel) (by simp) ?_; refine AllReadyH.cons (o := Oper.mk none _ _ _ _ _) rfl (fun K hK => ?_) AllReadyH.nil))
      all_goals (try (obtain ⟨a5, a2, a3, a4⟩ := FA))
      all_goals (go_simp; clear hHeld; refine hK.out _ _ (by (try dsimp only); with_reducible (first | exact KY.out _ (Below.refl _ _).drew | exact KY.out _ (by assumption) | (refine KY.out _ ?_; (repeat (first | refine below_alloc ?_ (Nat.le_refl _) | refine Below.drew ?_ | refine below_set ?_ (by omega))); (first | exact hbF9 | exact hbF8 | exact hbF7 | exact hbF6 | exact hbF5 | exact hbF4 | exact hbF3 | exact hbF2 | exact hbF1 | exact Below.refl _ _)))) (fun hHeld => ?_); clear hK K; (try simp only [Act.put, List.setIfInBounds_toArray, List.set_cons_zero, List.set_cons_succ]); refine wpAnyH_done (by kernel_rfl) ?_ _; refine NoPanic.normal ?_; go_wp2; go_meet; refine ⟨_, rfl, ?_⟩)
      all_goals (first
       | (with_reducible exact nvr_a H9 hbF9)
       | (with_reducible exact nvr_c H9 hbF9 a5 a2 a3 a4 (by omega)))
     case rest =>
      obtain ⟨r7, rfl, n7, o7, l7, c7, p7, m7, k7, hv7, hr7, hbZ⟩ := hcut
      obtain ⟨Z, hZ⟩ : ∃ Z, Z = wc := ⟨_, rfl⟩
      rw [← hZ] at hv7 hbZ
      rw [← hZ]
      have H7 : Hid (RVar Z r7 n7 o7 l7 c7 p7 m7 k7 x' ∧ (Boxed Z r5 n5 o5 l5 c5 ∧ IntAt Z n5 o5 l5 c5 (F : Int)) ∧ Below W.heap.size W Z) := ⟨hv7, ⟨HV5.out.1.later hbZ hlt5Y, HV5.out.2.1.later hbZ⟩, bnext HY.out hbZ⟩
      have hlt5 : r5 < Z.heap.size := Nat.lt_of_lt_of_le hlt5Y hbZ.size
      have hlt7 := hv7.lt
      have hzZ := H7.out.2.2.size
      clear hZ hv7 hbZ HY KY hlt5Y HV5 HA
      have KZ : Hid (∀ w' : World, Below Z.heap.size Z w' → w'.cell? ⟨r5, 0, none⟩ = some (.bool n5) ∧ w'.cell? ⟨r5, 1, none⟩ = some (.slice o5 l5 c5) ∧ w'.cell? ⟨r7, 0, none⟩ = some (.bool n7) ∧ w'.cell? ⟨r7, 1, none⟩ = some (.slice o7 l7 c7) ∧ w'.cell? ⟨r7, 2, none⟩ = some (.slice p7 m7 k7)) := fun w' h => (by obtain ⟨c0, c1⟩ := H7.out.2.1.1.later h hlt5; obtain ⟨a0, a1, a2⟩ := H7.out.1.box.later h hlt7; exact ⟨c0, c1, a0, a1, a2⟩)
      have KS : Hid (∀ X : World, Below Z.heap.size Z X → ∀ x y z, (fun w' : World => w'.cell? ⟨r5, 0, none⟩ = some (.bool n5) ∧ w'.cell? ⟨r5, 1, none⟩ = some (.slice o5 l5 c5) ∧ w'.cell? ⟨r7, 0, none⟩ = some (.bool n7) ∧ w'.cell? ⟨r7, 1, none⟩ = some (.slice o7 l7 c7) ∧ w'.cell? ⟨r7, 2, none⟩ = some (.slice p7 m7 k7)) (put3 X (w.heap.size + 1 + 1) x y z)) := fun X h x y z => by
       obtain ⟨h0, h1, h2, h3, h4⟩ := KZ.out X h
       (try dsimp only)
       rw [put3_off (by omega), put3_off (by omega), put3_off (by omega), put3_off (by omega), put3_off (by omega)]
       exact ⟨h0, h1, h2, h3, h4⟩
      go_upto_region 12 with fail
      refine wp_region_noPanic ?_
      refine wp_region_held_drew (S := fun w' => (w'.cell? ⟨r5, 0, none⟩ = some (.bool n5) ∧ w'.cell? ⟨r5, 1, none⟩ = some (.slice o5 l5 c5) ∧ w'.cell? ⟨r7, 0, none⟩ = some (.bool n7) ∧ w'.cell? ⟨r7, 1, none⟩ = some (.slice o7 l7 c7) ∧ w'.cell? ⟨r7, 2, none⟩ = some (.slice p7 m7 k7))) (by kernel_rfl) (by (try dsimp only); exact KZ.out _ (Below.refl _ _).drew) (fun hHeld => ?_)
      refine wpAnyH_take (i := 0) (oi := Oper.mk (some 53) _ _ _ _ _) (v := ?_) rfl (by kernel_rfl) (by kernel_rfl) (by kernel_rfl) (fun _ _ _ h => h) (Or.inl ⟨by rfl, ?_⟩) (by assumption) ?_
      rotate_left
      ·
       (intro w hSw; (try dsimp only at hSw); go_simp <;> (try with_reducible rfl))
      (try simp only [Act.put, List.setIfInBounds_toArray, List.set_cons_zero, List.set_cons_succ])
      refine wpAnyH_take (i := 3) (oi := Oper.mk (some 56) _ _ _ _ _) (v := ?_) rfl (by kernel_rfl) (by kernel_rfl) (by kernel_rfl) (fun _ _ _ h => h) (Or.inl ⟨by rfl, ?_⟩) (by assumption) ?_
      rotate_left
      ·
       (intro w hSw; (try dsimp only at hSw); go_simp <;> (try with_reducible rfl))
      (try simp only [Act.put, List.setIfInBounds_toArray, List.set_cons_zero, List.set_cons_succ])
      refine wpAnyH_ready (rs := [1]) (by kernel_rfl) (by simp) ?_
      refine AllReadyH.cons (o := Oper.mk (some 54) _ _ _ _ _) rfl (fun K hK => ?_) AllReadyH.nil
      go_simp
      (go_at_call 26; refine (qfrom_any n5 o5 l5 c5 _ _ (H7.out.2.1.2.row.later (Below.refl _ _).drew)).mono ?_; rintro e f1 ⟨p11, m11, k11, rfl, hr, ho, hb⟩; have H1 : Hid (RatAt f1 n5 o5 l5 c5 p11 m11 k11 (((F : Nat) : Int) : Rat)) := ⟨⟨H7.out.2.1.2.sg, hr⟩, ho.row⟩; clear hr ho; have hbF1 : Below Z.heap.size Z f1 := bnext (Below.refl _ _).drew hb; clear hb)
      (try go_wp2_with fail)
      clear hHeld
      refine hK.out _ _ (by (try dsimp only); first | exact KZ.out _ (Below.refl _ _).drew | exact KZ.out _ (by assumption)) (fun hHeld => ?_)
      clear hK K
      (try simp only [Act.put, List.setIfInBounds_toArray, List.set_cons_zero, List.set_cons_succ])
      refine wpAnyH_ready (rs := [2]) (by kernel_rfl) (by simp) ?_
      refine AllReadyH.cons (o := Oper.mk (some 55) _ _ _ _ _) rfl (fun K hK => ?_) AllReadyH.nil
      go_simp
      (go_at_call 44; refine (qint_any 1 _ (by decide) (by decide)).mono ?_; rintro e f2 ⟨n12, o12, l12, c12, p12, m12, k12, rfl, hr, hb⟩; have H2 : Hid (RatAt f2 n12 o12 l12 c12 p12 m12 k12 (((1 : Int) : Rat)) ∧ RatAt f2 n5 o5 l5 c5 p11 m11 k11 (((F : Nat) : Int) : Rat)) := ⟨hr, H1.out.later hb⟩; clear hr; have hbF2 : Below Z.heap.size Z f2 := bnext hbF1 hb; clear hb)
      (try go_wp2_with fail)
      clear hHeld
      refine hK.out _ _ (by (try dsimp only); first | exact KZ.out _ (Below.refl _ _).drew | exact KZ.out _ (by assumption)) (fun hHeld => ?_)
      clear hK K
      (try simp only [Act.put, List.setIfInBounds_toArray, List.set_cons_zero, List.set_cons_succ])
      refine wpAnyH_ready (rs := [4]) (by kernel_rfl) (by simp) ?_
      refine AllReadyH.cons (o := Oper.mk (some 57) _ _ _ _ _) rfl (fun K hK => ?_) AllReadyH.nil
      go_simp
      (go_at_call 88; refine (qover_any n12 n7 o12 p12 o7 p7 l12 c12 m12 k12 l7 c7 m7 k7 ((1 : Int) : Rat) x' _ (H2.out.1.later (Below.refl _ _)) (H7.out.1.rat.later hbF2) one_sz (HR.out.2.2.1.mono (by decide)) HR.out.2.2.2.2.2.2.2.2.2).mono ?_; rintro e f3 ⟨n13, o13, l13, c13, p13, m13, k13, rfl, hr, hb⟩; have H3 : Hid (RatAt f3 n13 o13 l13 c13 p13 m13 k13 (((1 : Int) : Rat) / x') ∧ RatAt f3 n5 o5 l5 c5 p11 m11 k11 (((F : Nat) : Int) : Rat)) := ⟨hr, H2.out.2.later hb⟩; clear hr; have hbF3 : Below Z.heap.size Z f3 := bnext hbF2 hb; clear hb)
      (try go_wp2_with fail)
      clear hHeld
      refine hK.out _ _ (by (try dsimp only); first | exact KZ.out _ (Below.refl _ _).drew | exact KZ.out _ (by assumption)) (fun hHeld => ?_)
      clear hK K
      (try simp only [Act.put, List.setIfInBounds_toArray, List.set_cons_zero, List.set_cons_succ])
      refine wpAnyH_ready (rs := [5]) (by kernel_rfl) (by simp) ?_
      refine AllReadyH.cons (o := Oper.mk (some 58) _ _ _ _ _) rfl (fun K hK => ?_) AllReadyH.nil
      go_simp
      (go_at_call 72; refine (qplus_any n5 n13 o5 p11 o13 p13 l5 c5 m11 k11 l13 c13 m13 k13 (((F : Nat) : Int) : Rat) (((1 : Int) : Rat) / x') _ (H3.out.2.later (Below.refl _ _)) (H3.out.1.later (Below.refl _ _)) (isz (v := (F : Int)) (k := 1000) (by rw [Int.natAbs_natCast]; have := HF.out.2.2; omega) (by decide)) (by rw [Rat.div_def]; exact (one_sz1.mul (HR.out.2.2.1.inv HR.out.2.2.2.2.2.2.2.2.2)).mono (by decide))).mono ?_; rintro e f4 ⟨n14, o14, l14, c14, p14, m14, k14, rfl, hr, hb⟩; rw [HXX.out] at hr; have H4 : Hid (RatAt f4 n14 o14 l14 c14 p14 m14 k14 x ∧ Below W.heap.size W f4) := ⟨hr, bnext H7.out.2.2 (bnext hbF3 hb)⟩; clear hr; have hbF4 : Below Z.heap.size Z f4 := bnext hbF3 hb; clear hb)
      (try go_wp2_with fail)
      clear hHeld
      refine hK.out _ _ (by (try dsimp only); first | exact KZ.out _ (Below.refl _ _).drew | exact KZ.out _ (by assumption)) (fun hHeld => ?_)
      clear hK K
      (try simp only [Act.put, List.setIfInBounds_toArray, List.set_cons_zero, List.set_cons_succ])
      obtain ⟨g5, g2, g3, g4⟩ := HW.out.2.2.1.later H4.out.2 (by omega)
      refine wpAnyH_ready (rs := [6]) (by kernel_rfl) (by simp) ?_
      refine AllReadyH.cons (o := Oper.mk none _ _ _ _ _) rfl (fun K hK => ?_) AllReadyH.nil
      go_simp
      clear hHeld
      refine hK.out _ _ (by (try dsimp only); exact KS.out _ hbF4 _ _ _) (fun hHeld => ?_)
      clear hK K
      (try simp only [Act.put, List.setIfInBounds_toArray, List.set_cons_zero, List.set_cons_succ])
      refine wpAnyH_done (by kernel_rfl) ?_ _
      refine NoPanic.normal ?_
      go_wp2
      exact bodyPost_ret (v := .agg #[.bool n14, .slice o14 l14 c14, .slice p14 m14 k14]) (by simp [results, Tryz.results42, go_sem, g2, g3, g4]) rfl
       ⟨_, _, _, _, _, _, _, rfl, rat_kept H4.out.1 ⟨g2, g3, g4⟩, below_store3 (bnext HW.out.2.2.2 H4.out.2) (by omega) _ _ _⟩
end Go.Proofs.YtiiefpnkpfliiaaGreatDoor
