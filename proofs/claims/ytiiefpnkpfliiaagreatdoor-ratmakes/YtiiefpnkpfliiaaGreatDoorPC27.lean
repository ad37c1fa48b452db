/-
  A pack of walks and facts: SP, SM, RX, SB.
-/
import Derived.Test.YtiiefpnkpfliiaaGreatDoorPC20
import Derived.Test.YtiiefpnkpfliiaaGreatDoorPC23
import Derived.Test.YtiiefpnkpfliiaaGreatDoorPC24
import Derived.Test.YtiiefpnkpfliiaaGreatDoorPC26
set_option maxRecDepth 100000
set_option maxHeartbeats 40000000
set_option linter.unusedVariables false
set_option linter.unusedSimpArgs false
namespace Go.Proofs.YtiiefpnkpfliiaaGreatDoor
open Go.RowKit
theorem qpow_nonneg (na : Bool) (ao po : Option Addr) (la ca lp cp : Nat) (n : Nat) (a : Rat) (w : World) (hx : RatAt w na ao la ca po lp cp a) (hz : Sz a 8) (hn : n ≤ 64) :
  Calls Tryz.prog 40 #[.agg #[.bool na, .slice ao la ca, .slice po lp cp], .int .i64 (n : Int)] w fun e w' => SomeR w w' e (a ^ n) := by
 obtain ⟨W, hT⟩ := ROne2.mk' w na ao po la ca lp cp
 have hsz : w.heap.size + 2 ≤ W.heap.size := by rw [hT.size]; exact Nat.le_refl _
 have HX : Hid (RatAt W na ao la ca po lp cp a) := hx.later hT.below
 have hla : la ≤ 8 := (hx.len hz).1
 have hlp : lp ≤ 8 := (hx.len hz).2
 have HW : Hid (Boxed3 W w.heap.size na ao la ca po lp cp ∧ Fresh3 W (w.heap.size + 1) ∧ Below w.heap.size w W) := ⟨hT.a, hT.r, hT.below⟩
 have KW : Hid (∀ w' : World, Below W.heap.size W w' → w'.cell? ⟨w.heap.size, 0, none⟩ = some (.bool na) ∧ w'.cell? ⟨w.heap.size, 1, none⟩ = some (.slice ao la ca) ∧ w'.cell? ⟨w.heap.size, 2, none⟩ = some (.slice po lp cp)) := fun w' h => HW.out.1.later h (by omega)
 have KS : Hid (∀ X : World, Below W.heap.size W X → ∀ x y z, (fun w' : World => w'.cell? ⟨w.heap.size, 0, none⟩ = some (.bool na) ∧ w'.cell? ⟨w.heap.size, 1, none⟩ = some (.slice ao la ca) ∧ w'.cell? ⟨w.heap.size, 2, none⟩ = some (.slice po lp cp)) (put3 X (w.heap.size + 1) x y z)) := fun X h x y z => HW.out.1.later h (by omega) |>.off (by omega) x y z
 obtain ⟨R, hR⟩ : ∃ R : Rat, R = a ^ n := ⟨_, rfl⟩
 have HR : Hid (R.num = a.num ^ n ∧ ((R.den : Nat) : Int) = (a.den : Int) ^ n) := ⟨by rw [hR, Rat.num_pow], by rw [hR, Rat.den_pow, Int.natCast_pow]⟩
 rw [← hR]
 clear hx hR
 have c1 : (0 : Int) ≤ (n : Int) := by omega
 have hmag := run_mag
 go_enter Tryz.func40, Tryz.ntmps40
 go_upto_region 2 with fail
 rw [← hT.eq]
 clear hT
 refine wp_region_noPanic ?_
 refine wp_region_held_drew (S := fun w' => (w'.cell? ⟨w.heap.size, 0, none⟩ = some (.bool na) ∧ w'.cell? ⟨w.heap.size, 1, none⟩ = some (.slice ao la ca) ∧ w'.cell? ⟨w.heap.size, 2, none⟩ = some (.slice po lp cp))) (by kernel_rfl) (by (try dsimp only); exact KW.out _ (Below.refl _ _).drew) (fun hHeld => ?_)
 refine wpAnyH_take (i := 0) (oi := Oper.mk (some 9) _ _ _ _ _) (v := ?_) rfl (by kernel_rfl) (by kernel_rfl) (by kernel_rfl) (fun _ _ _ h => h) (Or.inl ⟨by rfl, ?_⟩) (by assumption) ?_
 rotate_left
 ·
  (intro w hSw; (try dsimp only at hSw); go_simp <;> (try with_reducible rfl))
 (try simp only [Act.put, List.setIfInBounds_toArray, List.set_cons_zero, List.set_cons_succ])
 refine wpAnyH_take (i := 1) (oi := Oper.mk (some 10) _ _ _ _ _) (v := ?_) rfl (by kernel_rfl) (by kernel_rfl) (by kernel_rfl) (fun _ _ _ h => h) (Or.inl ⟨by rfl, ?_⟩) (by assumption) ?_
 rotate_left
 ·
  (intro w hSw; (try dsimp only at hSw); go_simp <;> (try with_reducible rfl))
 (try simp only [Act.put, List.setIfInBounds_toArray, List.set_cons_zero, List.set_cons_succ])
 refine wpAnyH_take (i := 2) (oi := Oper.mk (some 11) _ _ _ _ _) (v := ?_) rfl (by kernel_rfl) (by kernel_rfl) (by kernel_rfl) (fun _ _ _ h => h) (Or.inl ⟨by rfl, ?_⟩) (by assumption) ?_
 rotate_left
 ·
  (intro w hSw; (try dsimp only at hSw); go_simp <;> (try with_reducible rfl))
 (try simp only [Act.put, List.setIfInBounds_toArray, List.set_cons_zero, List.set_cons_succ])
 refine wpAnyH_take (i := 4) (oi := Oper.mk (some 13) _ _ _ _ _) (v := ?_) rfl (by kernel_rfl) (by kernel_rfl) (by kernel_rfl) (fun _ _ _ h => h) (Or.inl ⟨by rfl, ?_⟩) (by assumption) ?_
 rotate_left
 ·
  (intro w hSw; (try dsimp only at hSw); go_simp <;> (try with_reducible rfl))
 (try simp only [Act.put, List.setIfInBounds_toArray, List.set_cons_zero, List.set_cons_succ])
 refine wpAnyH_take (i := 6) (oi := Oper.mk (some 15) _ _ _ _ _) (v := ?_) rfl (by kernel_rfl) (by kernel_rfl) (by kernel_rfl) (fun _ _ _ h => h) (Or.inl ⟨by rfl, ?_⟩) (by assumption) ?_
 rotate_left
 ·
  (intro w hSw; (try dsimp only at hSw); go_simp <;> (try with_reducible rfl))
 (try simp only [Act.put, List.setIfInBounds_toArray, List.set_cons_zero, List.set_cons_succ])
 refine wpAnyH_ready (rs := [3]) (by kernel_rfl) (by simp) ?_
 refine AllReadyH.cons (o := Oper.mk (some 12) _ _ _ _ _) rfl (fun K hK => ?_) AllReadyH.nil
 go_simp
 (go_at_call 86; refine (rpow_any na ao la ca n a.num _ (HX.out.num.later (Below.refl _ _).drew) (by omega) hn).mono ?_; rintro e f1 ⟨n1, o1, l1, c1, rfl, hi, hb⟩; have H1 : Hid (IntAt f1 n1 o1 l1 c1 R.num) := (by rw [HR.out.1]; exact hi); clear hi; have hbF1 : Below W.heap.size W f1 := bnext (Below.refl _ _).drew hb; clear hb)
 (try go_wp2_with fail)
 clear hHeld
 refine hK.out _ _ (by (try dsimp only); first | exact KW.out _ (Below.refl _ _).drew | exact KW.out _ (by assumption)) (fun hHeld => ?_)
 clear hK K
 (try simp only [Act.put, List.setIfInBounds_toArray, List.set_cons_zero, List.set_cons_succ])
 refine wpAnyH_ready (rs := [5]) (by kernel_rfl) (by simp) ?_
 refine AllReadyH.cons (o := Oper.mk (some 14) _ _ _ _ _) rfl (fun K hK => ?_) AllReadyH.nil
 go_simp
 (go_at_call 69; refine (qden_any na ao po la ca lp cp _ (by omega)).mono ?_; rintro e f2 ⟨rfl, hb⟩; have H2 : Hid (IntAt f2 n1 o1 l1 c1 R.num) := H1.out.later hb; have hbF2 : Below W.heap.size W f2 := bnext hbF1 hb; clear hb)
 (try go_wp2_with fail)
 clear hHeld
 refine hK.out _ _ (by (try dsimp only); first | exact KW.out _ (Below.refl _ _).drew | exact KW.out _ (by assumption)) (fun hHeld => ?_)
 clear hK K
 (try simp only [Act.put, List.setIfInBounds_toArray, List.set_cons_zero, List.set_cons_succ])
 refine wpAnyH_ready (rs := [7]) (by kernel_rfl) (by simp) ?_
 refine AllReadyH.cons (o := Oper.mk (some 16) _ _ _ _ _) rfl (fun K hK => ?_) AllReadyH.nil
 go_simp
 (go_at_call 86; refine (rpow_any false po lp cp n (a.den : Int) _ (row_int (HX.out.den.later hbF2)) (by omega) hn).mono ?_; rintro e f3 ⟨n3, o3, l3, c3, rfl, hi, hb⟩; have H3 : Hid (RatAt f3 n1 o1 l1 c1 o3 l3 c3 R ∧ Below W.heap.size W f3) := ⟨⟨H2.out.later hb, (by have h := hi.row; rw [← HR.out.2, Int.natAbs_natCast] at h; exact h)⟩, bnext hbF2 hb⟩; clear hi; have hbF3 : Below W.heap.size W f3 := bnext hbF2 hb; clear hb)
 (try go_wp2_with fail)
 clear hHeld
 refine hK.out _ _ (by (try dsimp only); first | exact KW.out _ (Below.refl _ _).drew | exact KW.out _ (by assumption)) (fun hHeld => ?_)
 clear hK K
 (try simp only [Act.put, List.setIfInBounds_toArray, List.set_cons_zero, List.set_cons_succ])
 refine wpAnyH_take (i := 8) (oi := Oper.mk (some 17) _ _ _ _ _) (v := ?_) rfl (by kernel_rfl) (by kernel_rfl) (by kernel_rfl) (fun _ _ _ h => h) (Or.inl ⟨by rfl, ?_⟩) (by assumption) ?_
 rotate_left
 ·
  (intro w hSw; (try dsimp only at hSw); go_simp <;> (try with_reducible rfl))
 (try simp only [Act.put, List.setIfInBounds_toArray, List.set_cons_zero, List.set_cons_succ])
 refine wpAnyH_take (i := 9) (oi := Oper.mk (some 18) _ _ _ _ _) (v := ?_) rfl (by kernel_rfl) (by kernel_rfl) (by kernel_rfl) (fun _ _ _ h => h) (Or.inl ⟨by rfl, ?_⟩) (by assumption) ?_
 rotate_left
 ·
  (intro w hSw; (try dsimp only at hSw); go_simp <;> (try with_reducible rfl))
 (try simp only [Act.put, List.setIfInBounds_toArray, List.set_cons_zero, List.set_cons_succ])
 obtain ⟨g5, g2, g3, g4⟩ := HW.out.2.1.later H3.out.2 (by omega)
 refine wpAnyH_ready (rs := [10]) (by kernel_rfl) (by simp) ?_
 refine AllReadyH.cons (o := Oper.mk none _ _ _ _ _) rfl (fun K hK => ?_) AllReadyH.nil
 go_simp
 clear hHeld
 refine hK.out _ _ (by (try dsimp only); exact KS.out _ hbF3 _ _ _) (fun hHeld => ?_)
 clear hK K
 (try simp only [Act.put, List.setIfInBounds_toArray, List.set_cons_zero, List.set_cons_succ])
 refine wpAnyH_done (by kernel_rfl) ?_ _
 refine NoPanic.normal ?_
 go_wp2
 exact bodyPost_ret (v := .agg #[.bool n1, .slice o1 l1 c1, .slice o3 l3 c3]) (by simp [results, Tryz.results40, go_sem, g2, g3, g4]) rfl
  ⟨_, _, _, _, _, _, _, rfl, rat_kept H3.out.1 ⟨g2, g3, g4⟩, below_store3 (bnext HW.out.2.2 H3.out.2) (by omega) _ _ _⟩
theorem Rat.pow_ne_zero' (a : Rat) (n : Nat) (h : a ≠ 0) : a ^ n ≠ 0 := by
 intro e
 have h1 : (a ^ n).num = 0 := by rw [e]; rfl
 rw [Rat.num_pow] at h1
 have h2 : a.num ≠ 0 := fun e => h (Rat.num_eq_zero.1 e)
 exact absurd h1 (Int.pow_ne_zero h2)
theorem qpow_neg (na : Bool) (ao po : Option Addr) (la ca lp cp : Nat) (n : Nat) (a : Rat) (w : World) (hx : RatAt w na ao la ca po lp cp a) (hz : Sz a 8) (hn : n ≤ 64) (hn0 : 0 < n) (h0 : a ≠ 0) :
  Calls Tryz.prog 40 #[.agg #[.bool na, .slice ao la ca, .slice po lp cp], .int .i64 (-(n : Int))] w fun e w' => SomeR w w' e (a ^ (-(n : Int))) := by
 obtain ⟨W, hT⟩ := ROne2.mk' w na ao po la ca lp cp
 have hsz : w.heap.size + 2 ≤ W.heap.size := by rw [hT.size]; exact Nat.le_refl _
 have HX : Hid (RatAt W na ao la ca po lp cp a) := hx.later hT.below
 have hla : la ≤ 8 := (hx.len hz).1
 have hlp : lp ≤ 8 := (hx.len hz).2
 have HW : Hid (Boxed3 W w.heap.size na ao la ca po lp cp ∧ Fresh3 W (w.heap.size + 1) ∧ Below w.heap.size w W) := ⟨hT.a, hT.r, hT.below⟩
 obtain ⟨R, hR⟩ : ∃ R : Rat, R = a ^ (-(n : Int)) := ⟨_, rfl⟩
 obtain ⟨M, hM⟩ : ∃ M : Int, a.num ^ n = M := ⟨_, rfl⟩
 obtain ⟨D, hD⟩ : ∃ D : Nat, a.den ^ n = D := ⟨_, rfl⟩
 have hpn := inv_parts (Rat.pow_ne_zero' a n h0)
 have hD0 : 0 < D := by rw [← hD]; exact Nat.pow_pos a.den_pos
 have HR : Hid (R.num.natAbs = D ∧ R.den = M.natAbs ∧ sgB R.num = sgB M) := by
  have e1 : R = (a ^ n)⁻¹ := by rw [hR, Rat.zpow_neg, Rat.zpow_natCast]
  rw [e1, hpn.2.1, hpn.2.2, hpn.1, Rat.den_pow, Rat.num_pow, hD, hM]
  exact ⟨rfl, rfl, rfl⟩
 have HLD : Hid (a.den ^ n = D) := hD
 have HMD : Hid (a.num ^ n = M ∧ (a.den : Int) ^ n = (D : Int)) := ⟨hM, by rw [← hD, Int.natCast_pow]⟩
 rw [← hR]
 clear hx hR hM hD hpn
 have c1 : ¬ (0 : Int) ≤ -(n : Int) := by omega
 have hmag := run_mag
 go_enter Tryz.func40, Tryz.ntmps40
 go_upto_region 3 with fail
 rw [← hT.eq]
 clear hT
 go_cut [5] (fun s5 wx => ∃ r, s5 = .pointer (some ⟨r, 0, none⟩) ∧ IVar W wx r (D : Int))
 case first =>
  obtain ⟨p0, p1, p2⟩ := HW.out.1
  go_wp2_with (first
   | (go_at_call 69; refine (qden_any na ao po la ca lp cp _ (by omega)).mono ?_; rintro e y1 ⟨rfl, hb1⟩)
   | (go_at_call 86; refine (rpow_any false po lp cp n (a.den : Int) _ (row_int (HX.out.den.later hb1)) (by omega) hn).mono ?_; rw [HMD.out.2]; rintro e y2 ⟨n5, o5, l5, c5, rfl, hi, hb⟩; have HY : Hid (IntAt y2 n5 o5 l5 c5 (D : Int) ∧ Below W.heap.size W y2) := ⟨hi, bnext hb1 hb⟩; clear hi hb))
  go_meet
  exact ⟨_, rfl, iv_a HY.out.1 HY.out.2⟩
 case rest =>
  obtain ⟨r5, rfl, n5, o5, l5, c5, hb5, hi5, hr5, hlt5, hbZ⟩ := hcut
  obtain ⟨Z, hZ⟩ : ∃ Z, Z = wc := ⟨_, rfl⟩
  rw [← hZ] at hb5 hi5 hlt5 hbZ
  rw [← hZ]
  have H5 : Hid (Boxed Z r5 n5 o5 l5 c5 ∧ IntAt Z n5 o5 l5 c5 (D : Int) ∧ Below W.heap.size W Z) := ⟨hb5, hi5, hbZ⟩
  have hzZ := hbZ.size
  clear hZ hb5 hi5 hbZ
  go_upto_region 4 with fail
  go_cut [6] (fun s6 wx => ∃ r, s6 = .pointer (some ⟨r, 0, none⟩) ∧ IVar Z wx r M)
  case first =>
   obtain ⟨p0, p1, p2⟩ := HW.out.1.later H5.out.2.2 (by omega)
   go_wp2_with (go_at_call 86; refine (rpow_any na ao la ca n a.num _ (HX.out.num.later H5.out.2.2) (by omega) hn).mono ?_; rw [HMD.out.1]; rintro e y2 ⟨n6, o6, l6, c6, rfl, hi, hb⟩; have HY : Hid (IntAt y2 n6 o6 l6 c6 M ∧ Below Z.heap.size Z y2) := ⟨hi, hb⟩; clear hi hb)
   go_meet
   exact ⟨_, rfl, iv_a HY.out.1 HY.out.2⟩
  case rest =>
   obtain ⟨r6, rfl, n6, o6, l6, c6, hb6, hi6, hr6, hlt6, hbY⟩ := hcut
   obtain ⟨Y, hY⟩ : ∃ Z, Z = wc := ⟨_, rfl⟩
   rw [← hY] at hb6 hi6 hlt6 hbY
   rw [← hY]
   have H6 : Hid (Boxed Y r6 n6 o6 l6 c6 ∧ IntAt Y n6 o6 l6 c6 M ∧ Boxed Y r5 n5 o5 l5 c5 ∧ IntAt Y n5 o5 l5 c5 (D : Int) ∧ Below W.heap.size W Y) := ⟨hb6, hi6, H5.out.1.later hbY hlt5, H5.out.2.1.later hbY, bnext H5.out.2.2 hbY⟩
   have hlt5Y : r5 < Y.heap.size := Nat.lt_of_lt_of_le hlt5 hbY.size
   have hl5 : 0 < l5 := by rw [H6.out.2.2.2.1.row.hlen, Int.natAbs_natCast]; exact mag_len_pos.2 hD0
   have hLD : (mag ((D : Nat) : Int).natAbs).length ≤ 4611686018427387904 := by
    rw [Int.natAbs_natCast, ← HLD.out]
    have := len_pow (a.den : Int) n
    rw [← Int.natCast_pow, Int.natAbs_natCast, Int.natAbs_natCast] at this
    have h2 : (mag a.den).length * n ≤ 8 * 64 := Nat.mul_le_mul hz.2 hn
    omega
   clear hY hb6 hi6 hbY H5
   have KY : Hid (∀ w' : World, Below Y.heap.size Y w' → w'.cell? ⟨r6, 0, none⟩ = some (.bool n6) ∧ w'.cell? ⟨r6, 1, none⟩ = some (.slice o6 l6 c6) ∧ w'.cell? ⟨r5, 0, none⟩ = some (.bool n5) ∧ w'.cell? ⟨r5, 1, none⟩ = some (.slice o5 l5 c5)) := fun w' h => (by obtain ⟨a0, a1⟩ := H6.out.1.later h hlt6; obtain ⟨b0, b1⟩ := H6.out.2.2.1.later h hlt5Y; exact ⟨a0, a1, b0, b1⟩)
   have KS : Hid (∀ X : World, Below Y.heap.size Y X → ∀ x y z, (fun w' : World => w'.cell? ⟨r6, 0, none⟩ = some (.bool n6) ∧ w'.cell? ⟨r6, 1, none⟩ = some (.slice o6 l6 c6) ∧ w'.cell? ⟨r5, 0, none⟩ = some (.bool n5) ∧ w'.cell? ⟨r5, 1, none⟩ = some (.slice o5 l5 c5)) (put3 X (w.heap.size + 1) x y z)) := fun X h x y z => by
    obtain ⟨h0, h1, h2, h3⟩ := KY.out X h
    (try dsimp only)
    rw [put3_off (by omega), put3_off (by omega), put3_off (by omega), put3_off (by omega)]
    exact ⟨h0, h1, h2, h3⟩
   go_upto_region 5 with fail
   refine wp_region_noPanic ?_
   refine wp_region_held_drew (S := fun w' => (w'.cell? ⟨r6, 0, none⟩ = some (.bool n6) ∧ w'.cell? ⟨r6, 1, none⟩ = some (.slice o6 l6 c6) ∧ w'.cell? ⟨r5, 0, none⟩ = some (.bool n5) ∧ w'.cell? ⟨r5, 1, none⟩ = some (.slice o5 l5 c5))) (by kernel_rfl) (by (try dsimp only); exact KY.out _ (Below.refl _ _).drew) (fun hHeld => ?_)
   refine wpAnyH_take (i := 0) (oi := Oper.mk (some 29) _ _ _ _ _) (v := ?_) rfl (by kernel_rfl) (by kernel_rfl) (by kernel_rfl) (fun _ _ _ h => h) (Or.inl ⟨by rfl, ?_⟩) (by assumption) ?_
   rotate_left
   ·
    (intro w hSw; (try dsimp only at hSw); go_simp <;> (try with_reducible rfl))
   (try simp only [Act.put, List.setIfInBounds_toArray, List.set_cons_zero, List.set_cons_succ])
   refine wpAnyH_take (i := 1) (oi := Oper.mk (some 30) _ _ _ _ _) (v := ?_) rfl (by kernel_rfl) (by kernel_rfl) (by kernel_rfl) (fun _ _ _ h => h) (Or.inl ⟨by rfl, ?_⟩) (by assumption) ?_
   rotate_left
   ·
    (intro w hSw; (try dsimp only at hSw); go_simp <;> (try with_reducible rfl))
   (try simp only [Act.put, List.setIfInBounds_toArray, List.set_cons_zero, List.set_cons_succ])
   refine wpAnyH_take (i := 2) (oi := Oper.mk (some 31) _ _ _ _ _) (v := ?_) rfl (by kernel_rfl) (by kernel_rfl) (by kernel_rfl) (fun _ _ _ h => h) (Or.inl ⟨by rfl, ?_⟩) (by assumption) ?_
   rotate_left
   ·
    (intro w hSw; (try dsimp only at hSw); go_simp <;> (try with_reducible rfl))
   (try simp only [Act.put, List.setIfInBounds_toArray, List.set_cons_zero, List.set_cons_succ])
   refine wpAnyH_take (i := 3) (oi := Oper.mk (some 32) _ _ _ _ _) (v := ?_) rfl (by kernel_rfl) (by kernel_rfl) (by kernel_rfl) (fun _ _ _ h => h) (Or.inl ⟨by rfl, ?_⟩) (by assumption) ?_
   rotate_left
   ·
    (intro w hSw; (try dsimp only at hSw); go_simp <;> (try with_reducible rfl))
   (try simp only [Act.put, List.setIfInBounds_toArray, List.set_cons_zero, List.set_cons_succ])
   refine wpAnyH_take (i := 5) (oi := Oper.mk (some 34) _ _ _ _ _) (v := ?_) rfl (by kernel_rfl) (by kernel_rfl) (by kernel_rfl) (fun _ _ _ h => h) (Or.inl ⟨by rfl, ?_⟩) (by assumption) ?_
   rotate_left
   ·
    (intro w hSw; (try dsimp only at hSw); go_simp <;> (try with_reducible rfl))
   (try simp only [Act.put, List.setIfInBounds_toArray, List.set_cons_zero, List.set_cons_succ])
   refine wpAnyH_take (i := 6) (oi := Oper.mk (some 35) _ _ _ _ _) (v := ?_) rfl (by kernel_rfl) (by kernel_rfl) (by kernel_rfl) (fun _ _ _ h => h) (Or.inl ⟨by rfl, ?_⟩) (by assumption) ?_
   rotate_left
   ·
    (intro w hSw; (try dsimp only at hSw); go_simp <;> (try with_reducible rfl))
   (try simp only [Act.put, List.setIfInBounds_toArray, List.set_cons_zero, List.set_cons_succ])
   refine wpAnyH_ready (rs := [4]) (by kernel_rfl) (by simp) ?_
   refine AllReadyH.cons (o := Oper.mk (some 33) _ _ _ _ _) rfl (fun K hK => ?_) AllReadyH.nil
   go_simp
   (go_at_call 82; refine (made_any n6 o5 l5 c5 _ (by rw [H6.out.2.2.2.1.row.hlen]; exact hLD)).mono ?_; rintro e f1 ⟨rfl, hb⟩; have H1 : Hid (RatAt f1 n6 o5 l5 c5 o6 l6 c6 R ∧ Below W.heap.size W f1) := ⟨⟨⟨(by rw [HR.out.2.2]; exact H6.out.2.1.sg), (by rw [HR.out.1]; have h := (H6.out.2.2.2.1.later (bnext (Below.refl _ _).drew hb)).row; rw [Int.natAbs_natCast] at h; exact h)⟩, (by rw [HR.out.2.1]; exact (H6.out.2.1.later (bnext (Below.refl _ _).drew hb)).row)⟩, bnext H6.out.2.2.2.2 (bnext (Below.refl _ _).drew hb)⟩; rw [show (n6 && decide (0 < l5)) = n6 by rw [decide_eq_true hl5, Bool.and_true]]; have hbF1 : Below Y.heap.size Y f1 := bnext (Below.refl _ _).drew hb; clear hb)
   (try go_wp2_with fail)
   clear hHeld
   refine hK.out _ _ (by (try dsimp only); first | exact KY.out _ (Below.refl _ _).drew | exact KY.out _ (by assumption)) (fun hHeld => ?_)
   clear hK K
   (try simp only [Act.put, List.setIfInBounds_toArray, List.set_cons_zero, List.set_cons_succ])
   refine wpAnyH_take (i := 7) (oi := Oper.mk (some 36) _ _ _ _ _) (v := ?_) rfl (by kernel_rfl) (by kernel_rfl) (by kernel_rfl) (fun _ _ _ h => h) (Or.inl ⟨by rfl, ?_⟩) (by assumption) ?_
   rotate_left
   ·
    (intro w hSw; (try dsimp only at hSw); go_simp <;> (try with_reducible rfl))
   (try simp only [Act.put, List.setIfInBounds_toArray, List.set_cons_zero, List.set_cons_succ])
   obtain ⟨g5, g2, g3, g4⟩ := HW.out.2.1.later H1.out.2 (by omega)
   refine wpAnyH_ready (rs := [8]) (by kernel_rfl) (by simp) ?_
   refine AllReadyH.cons (o := Oper.mk none _ _ _ _ _) rfl (fun K hK => ?_) AllReadyH.nil
   go_simp
   clear hHeld
   refine hK.out _ _ (by (try dsimp only); exact KS.out _ hbF1 _ _ _) (fun hHeld => ?_)
   clear hK K
   (try simp only [Act.put, List.setIfInBounds_toArray, List.set_cons_zero, List.set_cons_succ])
   refine wpAnyH_done (by kernel_rfl) ?_ _
   refine NoPanic.normal ?_
   go_wp2
   exact bodyPost_ret (v := .agg #[.bool n6, .slice o5 l5 c5, .slice o6 l6 c6]) (by simp [results, Tryz.results40, go_sem, g2, g3, g4]) rfl
    ⟨_, _, _, _, _, _, _, rfl, rat_kept H1.out.1 ⟨g2, g3, g4⟩, below_store3 (bnext HW.out.2.2 H1.out.2) (by omega) _ _ _⟩
theorem qpow_any (na : Bool) (ao po : Option Addr) (la ca lp cp : Nat) (n : Int) (a : Rat) (w : World) (hx : RatAt w na ao la ca po lp cp a) (hz : Sz a 8) (hn : -64 ≤ n ∧ n ≤ 64) (h0 : a ≠ 0 ∨ 0 ≤ n) :
  Calls Tryz.prog 40 #[.agg #[.bool na, .slice ao la ca, .slice po lp cp], .int .i64 n] w fun e w' => SomeR w w' e (a ^ n) := by
 by_cases hs : 0 ≤ n
 ·
  obtain ⟨m, rfl⟩ : ∃ m : Nat, n = (m : Int) := ⟨n.toNat, by omega⟩
  rw [Rat.zpow_natCast]
  exact qpow_nonneg na ao po la ca lp cp m a w hx hz (by omega)
 ·
  obtain ⟨m, rfl⟩ : ∃ m : Nat, n = -(m : Int) := ⟨n.natAbs, by omega⟩
  exact qpow_neg na ao po la ca lp cp m a w hx hz (by omega) (by omega) (by rcases h0 with h | h; exact h; omega)
end Go.Proofs.YtiiefpnkpfliiaaGreatDoor
namespace Go.Proofs.YtiiefpnkpfliiaaGreatDoor
open Go.RowKit
theorem qsimple_posP (na nb : Bool) (ao po bo qo : Option Addr) (la ca lp cp lb cb lq cq : Nat) (a b x : Rat) (w : World) (hx : RatAt w na ao la ca po lp cp a) (hy : RatAt w nb bo lb cb qo lq cq b) (ha : Sz a 100) (hb : Sz b 100) (hle : LeQ a b) (h0 : 0 < a.num) (hS : SimpP a b x) :
  Calls Tryz.prog 42 #[.agg #[.bool na, .slice ao la ca, .slice po lp cp], .agg #[.bool nb, .slice bo lb cb, .slice qo lq cq]] w fun e w' => SomeR w w' e x := by
 obtain ⟨hx0, k, hS⟩ := hS
 exact qsimple_pos k na nb ao po bo qo la ca lp cp lb cb lq cq a b x w hx hy ha hb hle h0 hx0 hS
theorem qsimple_zero (na nb : Bool) (ao po bo qo : Option Addr) (la ca lp cp lb cb lq cq : Nat) (a b : Rat) (w : World) (hx : RatAt w na ao la ca po lp cp a) (hy : RatAt w nb bo lb cb qo lq cq b) (ha : Sz a 100) (hb : Sz b 100) (h0 : a.num ≤ 0) (h1 : 0 ≤ b.num) :
  Calls Tryz.prog 42 #[.agg #[.bool na, .slice ao la ca, .slice po lp cp], .agg #[.bool nb, .slice bo lb cb, .slice qo lq cq]] w fun e w' => SomeR w w' e 0 := by
 obtain ⟨W, hT⟩ := RTwo3.mk' w na nb ao po bo qo la ca lp cp lb cb lq cq
 have hsz : w.heap.size + 3 ≤ W.heap.size := by rw [hT.size]; exact Nat.le_refl _
 have HX : Hid (RatAt W na ao la ca po lp cp a ∧ RatAt W nb bo lb cb qo lq cq b) := ⟨hx.later hT.below, hy.later hT.below⟩
 have hla : la ≤ 100 := (hx.len ha).1
 have hlp : lp ≤ 100 := (hx.len ha).2
 have hlb : lb ≤ 100 := (hy.len hb).1
 have hlq : lq ≤ 100 := (hy.len hb).2
 have HSz : Hid (Sz a 100 ∧ Sz b 100) := ⟨ha, hb⟩
 have HW : Hid (Boxed3 W w.heap.size na ao la ca po lp cp ∧ Boxed3 W (w.heap.size + 1) nb bo lb cb qo lq cq ∧ Fresh3 W (w.heap.size + 1 + 1) ∧ Below w.heap.size w W) := ⟨hT.a, hT.b, hT.r, hT.below⟩
 obtain ⟨sa, hsa⟩ : ∃ c, cmpI a.num 0 = c := ⟨_, rfl⟩
 have hsa2 : sa = -1 ∨ sa = 0 := by rw [← hsa]; rcases Int.lt_or_eq_of_le h0 with h | h; exact Or.inl (by unfold cmpI; rw [if_pos h]); exact Or.inr (by unfold cmpI; rw [if_neg (by omega), if_neg (by omega)])
 have HSA : Hid (cmpI a.num 0 = sa) := hsa
 obtain ⟨sb, hsb⟩ : ∃ c, cmpI b.num 0 = c := ⟨_, rfl⟩
 have hsb2 : sb = 1 ∨ sb = 0 := by rw [← hsb]; rcases Int.lt_or_eq_of_le h1 with h | h; exact Or.inl (by unfold cmpI; rw [if_neg (by omega), if_pos h]); exact Or.inr (by unfold cmpI; rw [if_neg (by omega), if_neg (by omega)])
 have HSB : Hid (cmpI b.num 0 = sb) := hsb
 clear hsa hsb h0 h1 hx hy ha hb
 rcases hsa2 with rfl | rfl <;> rcases hsb2 with rfl | rfl
 all_goals
  go_enter Tryz.func42, Tryz.ntmps42
  go_wp2_with (first
   | (go_at_call 44; refine (qint_any 0 _ (by decide) (by decide)).mono ?_; rintro e y ⟨n4, o4, l4, c4, p4, m4, k4, rfl, hr, hb⟩; have HY : Hid (RatAt y n4 o4 l4 c4 p4 m4 k4 ((0 : Int) : Rat) ∧ Below W.heap.size W y) := ⟨hr, bnext hb2 hb⟩; clear hr hb p0 p1 p2 q0 q1 q2; obtain ⟨g5, g2, g3, g4⟩ := HW.out.2.2.1.later HY.out.2 (by omega))
   | (go_at_call 21; have _t := hb1; refine (qsign_any nb bo qo lb cb lq cq b _ (HX.out.2.later hb1) (by omega) _ HSB.out).mono ?_; rintro e w2 ⟨rfl, hb2'⟩; have hb2 := bnext hb1 hb2'; clear hb2' p0 p1 p2 q0 q1 q2; obtain ⟨p0, p1, p2⟩ := HW.out.1.later hb2 (by omega); obtain ⟨q0, q1, q2⟩ := HW.out.2.1.later hb2 (by omega))
   | (go_at_call 21; rw [← hT.eq]; refine (qsign_any na ao po la ca lp cp a _ HX.out.1 (by omega) _ HSA.out).mono ?_; rintro e w1 ⟨rfl, hb1⟩; obtain ⟨p0, p1, p2⟩ := HW.out.1.later hb1 (by omega); obtain ⟨q0, q1, q2⟩ := HW.out.2.1.later hb1 (by omega)))
  exact bodyPost_ret (v := .agg #[.bool n4, .slice o4 l4 c4, .slice p4 m4 k4]) (by simp [results, Tryz.results42, go_sem, g2, g3, g4]) rfl
   ⟨_, _, _, _, _, _, _, rfl, rat_kept (a := ((0 : Int) : Rat)) HY.out.1 ⟨g2, g3, g4⟩, below_store3 (bnext HW.out.2.2.2 HY.out.2) (by omega) _ _ _⟩
theorem qsimple_neg (na nb : Bool) (ao po bo qo : Option Addr) (la ca lp cp lb cb lq cq : Nat) (a b x : Rat) (w : World) (hx : RatAt w na ao la ca po lp cp a) (hy : RatAt w nb bo lb cb qo lq cq b) (ha : Sz a 100) (hb : Sz b 100) (hle : LeQ a b) (h0 : b.num < 0) (hS : SimpP (-b) (-a) (-x)) :
  Calls Tryz.prog 42 #[.agg #[.bool na, .slice ao la ca, .slice po lp cp], .agg #[.bool nb, .slice bo lb cb, .slice qo lq cq]] w fun e w' => SomeR w w' e x := by
 obtain ⟨W, hT⟩ := RTwo3.mk' w na nb ao po bo qo la ca lp cp lb cb lq cq
 have hsz : w.heap.size + 3 ≤ W.heap.size := by rw [hT.size]; exact Nat.le_refl _
 have HX : Hid (RatAt W na ao la ca po lp cp a ∧ RatAt W nb bo lb cb qo lq cq b) := ⟨hx.later hT.below, hy.later hT.below⟩
 have hla : la ≤ 100 := (hx.len ha).1
 have hlp : lp ≤ 100 := (hx.len ha).2
 have hlb : lb ≤ 100 := (hy.len hb).1
 have hlq : lq ≤ 100 := (hy.len hb).2
 have HSz : Hid (Sz a 100 ∧ Sz b 100) := ⟨ha, hb⟩
 have HW : Hid (Boxed3 W w.heap.size na ao la ca po lp cp ∧ Boxed3 W (w.heap.size + 1) nb bo lb cb qo lq cq ∧ Fresh3 W (w.heap.size + 1 + 1) ∧ Below w.heap.size w W) := ⟨hT.a, hT.b, hT.r, hT.below⟩
 have ha0 : a.num < 0 := by have := (hle.neg.pos (by rw [Rat.neg_num]; omega)).1; rw [Rat.neg_num] at this; omega
 have HSA : Hid (cmpI a.num 0 = -1) := by show _ = _; unfold cmpI; rw [if_pos ha0]
 have HSB : Hid (cmpI b.num 0 = -1) := by show _ = _; unfold cmpI; rw [if_pos h0]
 have HP : Hid (LeQ (-b) (-a) ∧ SimpP (-b) (-a) (-x) ∧ 0 < (-b).num ∧ Sz (-x) 100) := ⟨hle.neg, hS, by rw [Rat.neg_num]; omega, hS.size hle.neg (by rw [Rat.neg_num]; omega) hb.neg⟩
 clear hle hS ha0 h0 hx hy ha hb
 go_enter Tryz.func42, Tryz.ntmps42
 go_upto_region 4 with (first
  | (go_at_call 21; have _t := hb2; refine (qsign_any nb bo qo lb cb lq cq b _ (HX.out.2.later hb2) (by omega) (-1) HSB.out).mono ?_; rintro e w3 ⟨rfl, hb3'⟩; have hb3 := bnext hb2 hb3'; clear hb3' p0 p1 p2 q0 q1 q2)
  | (go_at_call 21; have _t := hb1; refine (qsign_any nb bo qo lb cb lq cq b _ (HX.out.2.later hb1) (by omega) (-1) HSB.out).mono ?_; rintro e w2 ⟨rfl, hb2'⟩; have hb2 := bnext hb1 hb2'; clear hb2' p0 p1 p2 q0 q1 q2; obtain ⟨p0, p1, p2⟩ := HW.out.1.later hb2 (by omega); obtain ⟨q0, q1, q2⟩ := HW.out.2.1.later hb2 (by omega))
  | (go_at_call 21; rw [← hT.eq]; refine (qsign_any na ao po la ca lp cp a _ HX.out.1 (by omega) (-1) HSA.out).mono ?_; rintro e w1 ⟨rfl, hb1⟩; obtain ⟨p0, p1, p2⟩ := HW.out.1.later hb1 (by omega); obtain ⟨q0, q1, q2⟩ := HW.out.2.1.later hb1 (by omega)))
 have hsU := hb3.size
 have KU : Hid (∀ w' : World, Below w3.heap.size w3 w' → w'.cell? ⟨w.heap.size, 0, none⟩ = some (.bool na) ∧ w'.cell? ⟨w.heap.size, 1, none⟩ = some (.slice ao la ca) ∧ w'.cell? ⟨w.heap.size, 2, none⟩ = some (.slice po lp cp) ∧ w'.cell? ⟨w.heap.size + 1, 0, none⟩ = some (.bool nb) ∧ w'.cell? ⟨w.heap.size + 1, 1, none⟩ = some (.slice bo lb cb) ∧ w'.cell? ⟨w.heap.size + 1, 2, none⟩ = some (.slice qo lq cq)) := fun w' h => (by obtain ⟨h0, h1, h2⟩ := HW.out.1.later (bnext hb3 h) (by omega); obtain ⟨h3, h4, h5⟩ := HW.out.2.1.later (bnext hb3 h) (by omega); exact ⟨h0, h1, h2, h3, h4, h5⟩)
 have KS : Hid (∀ X : World, Below w3.heap.size w3 X → ∀ x y z, (fun w' : World => w'.cell? ⟨w.heap.size, 0, none⟩ = some (.bool na) ∧ w'.cell? ⟨w.heap.size, 1, none⟩ = some (.slice ao la ca) ∧ w'.cell? ⟨w.heap.size, 2, none⟩ = some (.slice po lp cp) ∧ w'.cell? ⟨w.heap.size + 1, 0, none⟩ = some (.bool nb) ∧ w'.cell? ⟨w.heap.size + 1, 1, none⟩ = some (.slice bo lb cb) ∧ w'.cell? ⟨w.heap.size + 1, 2, none⟩ = some (.slice qo lq cq)) (put3 X (w.heap.size + 1 + 1) x y z)) := fun X h x y z => by
  obtain ⟨h0, h1, h2, h3, h4, h5⟩ := KU.out X h
  (try dsimp only)
  rw [put3_off (by omega), put3_off (by omega), put3_off (by omega), put3_off (by omega), put3_off (by omega), put3_off (by omega)]
  exact ⟨h0, h1, h2, h3, h4, h5⟩
 have HU : Hid (RatAt w3 na ao la ca po lp cp a ∧ RatAt w3 nb bo lb cb qo lq cq b) := ⟨HX.out.1.later hb3, HX.out.2.later hb3⟩
 refine wp_region_noPanic ?_
 refine wp_region_held_drew (S := fun w' => (w'.cell? ⟨w.heap.size, 0, none⟩ = some (.bool na) ∧ w'.cell? ⟨w.heap.size, 1, none⟩ = some (.slice ao la ca) ∧ w'.cell? ⟨w.heap.size, 2, none⟩ = some (.slice po lp cp) ∧ w'.cell? ⟨w.heap.size + 1, 0, none⟩ = some (.bool nb) ∧ w'.cell? ⟨w.heap.size + 1, 1, none⟩ = some (.slice bo lb cb) ∧ w'.cell? ⟨w.heap.size + 1, 2, none⟩ = some (.slice qo lq cq))) (by kernel_rfl) (by (try dsimp only); exact KU.out _ (Below.refl _ _).drew) (fun hHeld => ?_)
 refine wpAnyH_take (i := 0) (oi := Oper.mk (some 20) _ _ _ _ _) (v := ?_) rfl (by kernel_rfl) (by kernel_rfl) (by kernel_rfl) (fun _ _ _ h => h) (Or.inl ⟨by rfl, ?_⟩) (by assumption) ?_
 rotate_left
 ·
  (intro w hSw; (try dsimp only at hSw); go_simp <;> (try with_reducible rfl))
 (try simp only [Act.put, List.setIfInBounds_toArray, List.set_cons_zero, List.set_cons_succ])
 refine wpAnyH_take (i := 2) (oi := Oper.mk (some 22) _ _ _ _ _) (v := ?_) rfl (by kernel_rfl) (by kernel_rfl) (by kernel_rfl) (fun _ _ _ h => h) (Or.inl ⟨by rfl, ?_⟩) (by assumption) ?_
 rotate_left
 ·
  (intro w hSw; (try dsimp only at hSw); go_simp <;> (try with_reducible rfl))
 (try simp only [Act.put, List.setIfInBounds_toArray, List.set_cons_zero, List.set_cons_succ])
 refine wpAnyH_ready (rs := [1]) (by kernel_rfl) (by simp) ?_
 refine AllReadyH.cons (o := Oper.mk (some 21) _ _ _ _ _) rfl (fun K hK => ?_) AllReadyH.nil
 go_simp
 (go_at_call 22; refine (qneg_any nb bo qo lb cb lq cq b _ (HU.out.2.later (Below.refl _ _).drew) (by omega)).mono ?_; rintro e f1 ⟨n1, o1, l1, c1, p1, m1, k1, rfl, hr, hb⟩; have H1 : Hid (RatAt f1 n1 o1 l1 c1 p1 m1 k1 (-b)) := hr; clear hr; have hbF1 : Below w3.heap.size w3 f1 := bnext (Below.refl _ _).drew hb; clear hb)
 (try go_wp2_with fail)
 clear hHeld
 refine hK.out _ _ (by (try dsimp only); first | exact KU.out _ (Below.refl _ _).drew | exact KU.out _ (by assumption)) (fun hHeld => ?_)
 clear hK K
 (try simp only [Act.put, List.setIfInBounds_toArray, List.set_cons_zero, List.set_cons_succ])
 refine wpAnyH_ready (rs := [3]) (by kernel_rfl) (by simp) ?_
 refine AllReadyH.cons (o := Oper.mk (some 23) _ _ _ _ _) rfl (fun K hK => ?_) AllReadyH.nil
 go_simp
 (go_at_call 22; refine (qneg_any na ao po la ca lp cp a _ (HU.out.1.later hbF1) (by omega)).mono ?_; rintro e f2 ⟨n2, o2, l2, c2, p2, m2, k2, rfl, hr, hb⟩; have H2 : Hid (RatAt f2 n2 o2 l2 c2 p2 m2 k2 (-a) ∧ RatAt f2 n1 o1 l1 c1 p1 m1 k1 (-b)) := ⟨hr, H1.out.later hb⟩; clear hr; have hbF2 : Below w3.heap.size w3 f2 := bnext hbF1 hb; clear hb)
 (try go_wp2_with fail)
 clear hHeld
 refine hK.out _ _ (by (try dsimp only); first | exact KU.out _ (Below.refl _ _).drew | exact KU.out _ (by assumption)) (fun hHeld => ?_)
 clear hK K
 (try simp only [Act.put, List.setIfInBounds_toArray, List.set_cons_zero, List.set_cons_succ])
 refine wpAnyH_ready (rs := [4]) (by kernel_rfl) (by simp) ?_
 refine AllReadyH.cons (o := Oper.mk (some 24) _ _ _ _ _) rfl (fun K hK => ?_) AllReadyH.nil
 go_simp
 (go_at_call 42; refine (qsimple_posP n1 n2 o1 p1 o2 p2 l1 c1 m1 k1 l2 c2 m2 k2 (-b) (-a) (-x) _ H2.out.2 H2.out.1 HSz.out.2.neg HSz.out.1.neg HP.out.1 HP.out.2.2.1 HP.out.2.1).mono ?_; rintro e f3 ⟨n3, o3, l3, c3, p3, m3, k3, rfl, hr, hb⟩; have H3 : Hid (RatAt f3 n3 o3 l3 c3 p3 m3 k3 (-x)) := hr; clear hr; have hbF3 : Below w3.heap.size w3 f3 := bnext hbF2 hb; clear hb)
 (try go_wp2_with fail)
 clear hHeld
 refine hK.out _ _ (by (try dsimp only); first | exact KU.out _ (Below.refl _ _).drew | exact KU.out _ (by assumption)) (fun hHeld => ?_)
 clear hK K
 (try simp only [Act.put, List.setIfInBounds_toArray, List.set_cons_zero, List.set_cons_succ])
 refine wpAnyH_ready (rs := [5]) (by kernel_rfl) (by simp) ?_
 refine AllReadyH.cons (o := Oper.mk (some 25) _ _ _ _ _) rfl (fun K hK => ?_) AllReadyH.nil
 go_simp
 (go_at_call 22; refine (qneg_any n3 o3 p3 l3 c3 m3 k3 (-x) _ H3.out (by have := (H3.out.len HP.out.2.2.2).1; omega)).mono ?_; rintro e f4 ⟨n4, o4, l4, c4, p4, m4, k4, rfl, hr, hb⟩; rw [Rat.neg_neg] at hr; have H4 : Hid (RatAt f4 n4 o4 l4 c4 p4 m4 k4 x ∧ Below W.heap.size W f4) := ⟨hr, bnext hb3 (bnext hbF3 hb)⟩; clear hr; have hbF4 : Below w3.heap.size w3 f4 := bnext hbF3 hb; clear hb)
 (try go_wp2_with fail)
 clear hHeld
 refine hK.out _ _ (by (try dsimp only); first | exact KU.out _ (Below.refl _ _).drew | exact KU.out _ (by assumption)) (fun hHeld => ?_)
 clear hK K
 (try simp only [Act.put, List.setIfInBounds_toArray, List.set_cons_zero, List.set_cons_succ])
 obtain ⟨g5, g2, g3, g4⟩ := HW.out.2.2.1.later H4.out.2 (by omega)
 refine wpAnyH_ready (rs := [6]) (by kernel_rfl) (by simp) ?_
 refine AllReadyH.cons (o := Oper.mk none _ _ _ _ _) rfl (fun K hK => ?_) AllReadyH.nil
 go_simp
 clear hHeld
 refine hK.out _ _ (by (try dsimp only); exact KS.out _ hbF4 _ _ _) (fun hHeld => ?_)
 clear hK K
 (try simp only [Act.put, List.setIfInBounds_toArray, List.set_cons_zero, List.set_cons_succ])
 refine wpAnyH_done (by kernel_rfl) ?_ _
 refine NoPanic.normal ?_
 go_wp2
 exact bodyPost_ret (v := .agg #[.bool n4, .slice o4 l4 c4, .slice p4 m4 k4]) (by simp [results, Tryz.results42, go_sem, g2, g3, g4]) rfl
  ⟨_, _, _, _, _, _, _, rfl, rat_kept H4.out.1 ⟨g2, g3, g4⟩, below_store3 (bnext HW.out.2.2.2 H4.out.2) (by omega) _ _ _⟩
theorem qsimple_rat (na nb : Bool) (ao po bo qo : Option Addr) (la ca lp cp lb cb lq cq : Nat) (a b x : Rat) (w : World) (hx : RatAt w na ao la ca po lp cp a) (hy : RatAt w nb bo lb cb qo lq cq b) (ha : Sz a 100) (hb : Sz b 100) (hle : LeQ a b) (hS : SimpQ a b x) :
  Calls Tryz.prog 42 #[.agg #[.bool na, .slice ao la ca, .slice po lp cp], .agg #[.bool nb, .slice bo lb cb, .slice qo lq cq]] w fun e w' => SomeR w w' e x := by
 rcases hS with ⟨h0, hS⟩ | ⟨h0, hS⟩ | ⟨h0, h1, rfl⟩
 ·
  exact qsimple_posP na nb ao po bo qo la ca lp cp lb cb lq cq a b x w hx hy ha hb hle h0 hS
 ·
  exact qsimple_neg na nb ao po bo qo la ca lp cp lb cb lq cq a b x w hx hy ha hb hle h0 hS
 ·
  exact qsimple_zero na nb ao po bo qo la ca lp cp lb cb lq cq a b w hx hy ha hb h0 h1
end Go.Proofs.YtiiefpnkpfliiaaGreatDoor
namespace Go.Proofs.YtiiefpnkpfliiaaGreatDoor
open Go.RowKit
theorem Own.lt_of3 {B : Nat} {w : World} {k : IntKind} {t : TypeId} {ao : Option Addr} {len cap : Nat} {zs : List Int} (h : Own B w k t ao len cap zs) : ∀ p : Addr, ao = some p → B ≤ p.block ∧ p.block < w.heap.size := by
 intro p hp
 rcases h with ⟨h1, _⟩ | ⟨g, off, cur, h1, h2, h3, _⟩
 ·
  rw [h1] at hp; cases hp
 ·
  rw [h1] at hp; cases hp
  exact ⟨h2, heap_lt h3⟩
theorem Stay2.cell {ao po : Option Addr} {w w' : World} (h : Stay2 ao po w w') {r j : Nat} (hr : r < w.heap.size) (ha : ∀ p : Addr, ao = some p → p.block ≠ r) (hp : ∀ p : Addr, po = some p → p.block ≠ r) : w'.cell? ⟨r, j, none⟩ = w.cell? ⟨r, j, none⟩ := by
 simp only [World.cell?, h r hr ha hp]
theorem Stay2.frozen {ao po : Option Addr} {w w' : World} (h : Stay2 ao po w w') {r j : Nat} (hr : r < w.heap.size) (ha : ∀ p : Addr, ao = some p → p.block ≠ r) (hp : ∀ p : Addr, po = some p → p.block ≠ r) : w'.frozen? ⟨r, j, none⟩ = w.frozen? ⟨r, j, none⟩ := by
 simp only [World.frozen?, h r hr ha hp]
def Slot3 (Z : World) (r : Nat) : Prop := (∃ n o l c p m k, Boxed3 Z r n o l c p m k) ∧ (∀ j, Z.frozen? ⟨r, j, none⟩ = false)
theorem Boxed3.lt {Z : World} {r : Nat} {n : Bool} {o p : Option Addr} {l c m k : Nat} (h : Boxed3 Z r n o l c p m k) : r < Z.heap.size := cell_lt h.1
theorem Slot3.lt {Z : World} {r : Nat} (h : Slot3 Z r) : r < Z.heap.size := by
 obtain ⟨⟨n, o, l, c, p, m, k, hb⟩, _⟩ := h; exact hb.lt
theorem Slot3.at {Z Z' : World} {r B : Nat} (h : Slot3 Z r) (hb : Below B Z Z') (hr : r < B) : Slot3 Z' r := by
 obtain ⟨⟨n, o, l, c, p, m, k, hx⟩, hf⟩ := h
 exact ⟨⟨n, o, l, c, p, m, k, hx.later hb hr⟩, fun j => (hb.frozen (p := ⟨r, j, none⟩) hr).trans (hf j)⟩
theorem Slot3.stay {ao po : Option Addr} {Z Z' : World} {r : Nat} (h : Slot3 Z r) (hs : Stay2 ao po Z Z') (ha : ∀ p : Addr, ao = some p → p.block ≠ r) (hp : ∀ p : Addr, po = some p → p.block ≠ r) : Slot3 Z' r := by
 have hr := h.lt
 obtain ⟨⟨n, o, l, c, p, m, k, hx⟩, hf⟩ := h
 exact ⟨⟨n, o, l, c, p, m, k, (hs.cell hr ha hp).trans hx.1, (hs.cell hr ha hp).trans hx.2.1, (hs.cell hr ha hp).trans hx.2.2⟩, fun j => (hs.frozen hr ha hp).trans (hf j)⟩
theorem boxed3_new {w : World} {n : Bool} {o p : Option Addr} {l c m k : Nat} : Boxed3 (w.alloc (.cells #[.bool n, .slice o l c, .slice p m k] 28)) w.heap.size n o l c p m k := ⟨by simp [go_sem], by simp [go_sem], by simp [go_sem]⟩
theorem Slot3.new {w : World} {n : Bool} {o p : Option Addr} {l c m k : Nat} : Slot3 (w.alloc (.cells #[.bool n, .slice o l c, .slice p m k] 28)) w.heap.size := ⟨⟨_, _, _, _, _, _, _, boxed3_new⟩, fun j => by simp [go_sem]⟩
theorem boxed3_put {Z : World} {r : Nat} (h : Slot3 Z r) {n : Bool} {o p : Option Addr} {l c m k : Nat} : Boxed3 (((Z.setCell ⟨r, 0, none⟩ (.bool n)).setCell ⟨r, 1, none⟩ (.slice o l c)).setCell ⟨r, 2, none⟩ (.slice p m k)) r n o l c p m k := by
 obtain ⟨⟨n', o', l', c', p', m', k', hx⟩, _⟩ := h
 exact boxed_set hx.1 hx.2.1 hx.2.2
theorem Slot3.put {Z : World} {r : Nat} (h : Slot3 Z r) {n : Bool} {o p : Option Addr} {l c m k : Nat} : Slot3 (((Z.setCell ⟨r, 0, none⟩ (.bool n)).setCell ⟨r, 1, none⟩ (.slice o l c)).setCell ⟨r, 2, none⟩ (.slice p m k)) r :=
 ⟨⟨_, _, _, _, _, _, _, boxed3_put h⟩, fun j => by rw [frozen_off, frozen_off, frozen_off]; exact h.2 j⟩
theorem boxed3_off {Z : World} {r s : Nat} {n : Bool} {o p : Option Addr} {l c m k : Nat} (h : Boxed3 Z s n o l c p m k) (hs : s ≠ r) (x y z : Value) : Boxed3 (((Z.setCell ⟨r, 0, none⟩ x).setCell ⟨r, 1, none⟩ y).setCell ⟨r, 2, none⟩ z) s n o l c p m k :=
 ⟨by rw [cell_off hs, cell_off hs, cell_off hs]; exact h.1, by rw [cell_off hs, cell_off hs, cell_off hs]; exact h.2.1, by rw [cell_off hs, cell_off hs, cell_off hs]; exact h.2.2⟩
theorem row_slot {Z : World} {r : Nat} (h : Slot3 Z r) {q : Option Addr} {a b : Nat} {zs : List Int} (hr : RowAt Z .u64 q a b zs) (x y z : Value) : RowAt (((Z.setCell ⟨r, 0, none⟩ x).setCell ⟨r, 1, none⟩ y).setCell ⟨r, 2, none⟩ z) .u64 q a b zs := by
 obtain ⟨⟨n', o', l', c', p', m', k', hx⟩, _⟩ := h
 exact row_kept3 hr hx
theorem put3_size {y : World} {r : Nat} {a b c : Value} : (((y.setCell ⟨r, 0, none⟩ a).setCell ⟨r, 1, none⟩ b).setCell ⟨r, 2, none⟩ c).heap.size = y.heap.size := by simp [World.setCell]
def VarR (Z : World) (r : Nat) (v : Option Rat) : Prop := ∃ n o l c p m k, Boxed3 Z r n o l c p m k ∧ (∀ a, v = some a → RatAt Z n o l c p m k a) ∧ ∀ j, Z.frozen? ⟨r, j, none⟩ = false
theorem VarR.slot {Z : World} {r : Nat} {v : Option Rat} (h : VarR Z r v) : Slot3 Z r := by
 obtain ⟨n, o, l, c, p, m, k, h1, _, h3⟩ := h; exact ⟨⟨_, _, _, _, _, _, _, h1⟩, h3⟩
theorem VarR.later {Z Z' : World} {r : Nat} {v : Option Rat} (h : VarR Z r v) (hb : Below Z.heap.size Z Z') : VarR Z' r v := by
 have hr := h.slot.lt
 obtain ⟨n, o, l, c, p, m, k, h1, h2, h3⟩ := h
 exact ⟨n, o, l, c, p, m, k, h1.later hb hr, fun a e => (h2 a e).later hb, fun j => (hb.frozen (p := ⟨r, j, none⟩) hr).trans (h3 j)⟩
theorem VarR.off {Z : World} {r s : Nat} {v : Option Rat} (h : VarR Z s v) (hs : s ≠ r) (hr : Slot3 Z r) (x y z : Value) : VarR (((Z.setCell ⟨r, 0, none⟩ x).setCell ⟨r, 1, none⟩ y).setCell ⟨r, 2, none⟩ z) s v := by
 obtain ⟨n, o, l, c, p, m, k, h1, h2, h3⟩ := h
 obtain ⟨⟨n', o', l', c', p', m', k', hx⟩, _⟩ := hr
 exact ⟨n, o, l, c, p, m, k, boxed3_off h1 hs _ _ _, fun a e => rat_kept (h2 a e) hx, fun j => by rw [frozen_off, frozen_off, frozen_off]; exact h3 j⟩
theorem VarR.put {Z : World} {r : Nat} {n : Bool} {o p : Option Addr} {l c m k : Nat} {a : Rat} (hr : Slot3 Z r) (hi : RatAt Z n o l c p m k a) : VarR (((Z.setCell ⟨r, 0, none⟩ (.bool n)).setCell ⟨r, 1, none⟩ (.slice o l c)).setCell ⟨r, 2, none⟩ (.slice p m k)) r (some a) := by
 have h2 := hr.put (n := n) (o := o) (l := l) (c := c) (p := p) (m := m) (k := k)
 obtain ⟨⟨n', o', l', c', p', m', k', hx⟩, hf⟩ := hr
 exact ⟨n, o, l, c, p, m, k, boxed_set hx.1 hx.2.1 hx.2.2, fun a' e => by cases e; exact rat_kept hi hx, h2.2⟩
theorem VarR.zero {w : World} : VarR (w.alloc (.cells #[.bool false, .slice none 0 0, .slice none 0 0] 28)) w.heap.size none := ⟨false, none, 0, 0, none, 0, 0, boxed3_new, fun a e => (by cases e), fun j => by simp [go_sem]⟩
theorem Boxed7.off {Z : World} {P r : Nat} {na nb : Bool} {ao po bo qo : Option Addr} {la ca lp cp lb cb lq cq : Nat} {N : Int} (h : Boxed7 Z P na nb ao po bo qo la ca lp cp lb cb lq cq N) (hp : P ≠ r) (x y z : Value) : Boxed7 (((Z.setCell ⟨r, 0, none⟩ x).setCell ⟨r, 1, none⟩ y).setCell ⟨r, 2, none⟩ z) P na nb ao po bo qo la ca lp cp lb cb lq cq N :=
 ⟨by rw [cell_off hp, cell_off hp, cell_off hp]; exact h.1, by rw [cell_off hp, cell_off hp, cell_off hp]; exact h.2.1, by rw [cell_off hp, cell_off hp, cell_off hp]; exact h.2.2.1, by rw [cell_off hp, cell_off hp, cell_off hp]; exact h.2.2.2.1, by rw [cell_off hp, cell_off hp, cell_off hp]; exact h.2.2.2.2.1, by rw [cell_off hp, cell_off hp, cell_off hp]; exact h.2.2.2.2.2.1, by rw [cell_off hp, cell_off hp, cell_off hp]; exact h.2.2.2.2.2.2⟩
structure ExR (w Z : World) (P rA rB g : Nat) (na nb : Bool) (ao po bo qo a1 p1 b1 q1 : Option Addr) (la ca lp cp lb cb lq cq c1 e1 d1 f1 : Nat) (N : Int) (x d y f : List Int) (s0 s1 s2 s3 : Option Rat) : Prop where
 p : Boxed7 Z P na nb ao po bo qo la ca lp cp lb cb lq cq N
 ba : Boxed3 Z rA na a1 la c1 p1 lp e1
 bb : Boxed3 Z rB nb b1 lb d1 q1 lq f1
 ra : RowAt Z .u64 a1 la c1 x
 rd : RowAt Z .u64 p1 lp e1 d
 rb : RowAt Z .u64 b1 lb d1 y
 rf : RowAt Z .u64 q1 lq f1 f
 ja : RowAt Z .u64 ao la ca x
 jd : RowAt Z .u64 po lp cp d
 jb : RowAt Z .u64 bo lb cb y
 jf : RowAt Z .u64 qo lq cq f
 v0 : VarR Z g s0
 v1 : VarR Z (g + 1) s1
 v2 : VarR Z (g + 2) s2
 v3 : VarR Z (g + 3) s3
 lo : P < g ∧ rA < g ∧ rB < g ∧ w.heap.size ≤ g
 hi : g + 3 < Z.heap.size
 bw : Below w.heap.size w Z
theorem ExR.later {w Z Z' : World} {P rA rB g : Nat} {na nb : Bool} {ao po bo qo a1 p1 b1 q1 : Option Addr} {la ca lp cp lb cb lq cq c1 e1 d1 f1 : Nat} {N : Int} {x d y f : List Int} {s0 s1 s2 s3 : Option Rat} (h : ExR w Z P rA rB g na nb ao po bo qo a1 p1 b1 q1 la ca lp cp lb cb lq cq c1 e1 d1 f1 N x d y f s0 s1 s2 s3) (hb : Below Z.heap.size Z Z') : ExR w Z' P rA rB g na nb ao po bo qo a1 p1 b1 q1 la ca lp cp lb cb lq cq c1 e1 d1 f1 N x d y f s0 s1 s2 s3 := by
 have h1 := h.lo
 have h2 := h.hi
 exact ⟨h.p.later hb (by omega), h.ba.later hb (by omega), h.bb.later hb (by omega), h.ra.later hb, h.rd.later hb, h.rb.later hb, h.rf.later hb, h.ja.later hb, h.jd.later hb, h.jb.later hb, h.jf.later hb, h.v0.later hb, h.v1.later hb, h.v2.later hb, h.v3.later hb, h1, Nat.lt_of_lt_of_le h2 hb.size, bnext h.bw hb⟩
theorem ExR.put3 {w Z Z' : World} {P rA rB g : Nat} {na nb : Bool} {ao po bo qo a1 p1 b1 q1 : Option Addr} {la ca lp cp lb cb lq cq c1 e1 d1 f1 : Nat} {N : Int} {x d y f : List Int} {s0 s1 s2 s3 : Option Rat} {n : Bool} {o p : Option Addr} {l c m k : Nat} {v : Rat} (h : ExR w Z P rA rB g na nb ao po bo qo a1 p1 b1 q1 la ca lp cp lb cb lq cq c1 e1 d1 f1 N x d y f s0 s1 s2 s3) (hb : Below Z.heap.size Z Z') (hi : RatAt Z' n o l c p m k v) : ExR w (((Z'.setCell ⟨g + 3, 0, none⟩ (.bool n)).setCell ⟨g + 3, 1, none⟩ (.slice o l c)).setCell ⟨g + 3, 2, none⟩ (.slice p m k)) P rA rB g na nb ao po bo qo a1 p1 b1 q1 la ca lp cp lb cb lq cq c1 e1 d1 f1 N x d y f s0 s1 s2 (some v) := by
 have k1 := h.later hb
 have h1 := k1.lo
 have h2 := k1.hi
 have hs := k1.v3.slot
 exact ⟨k1.p.off (by omega) _ _ _, boxed3_off k1.ba (by omega) _ _ _, boxed3_off k1.bb (by omega) _ _ _, row_slot hs k1.ra _ _ _, row_slot hs k1.rd _ _ _, row_slot hs k1.rb _ _ _, row_slot hs k1.rf _ _ _, row_slot hs k1.ja _ _ _, row_slot hs k1.jd _ _ _, row_slot hs k1.jb _ _ _, row_slot hs k1.jf _ _ _, k1.v0.off (by omega) hs _ _ _, k1.v1.off (by omega) hs _ _ _, k1.v2.off (by omega) hs _ _ _, VarR.put hs hi, h1, by rw [put3_size]; exact h2, below_store3 k1.bw (by omega) _ _ _⟩
theorem ExR.new {w Z : World} {P rA rB : Nat} {na nb : Bool} {ao po bo qo a1 p1 b1 q1 : Option Addr} {la ca lp cp lb cb lq cq c1 e1 d1 f1 : Nat} {N : Int} {x d y f : List Int} (p : Boxed7 Z P na nb ao po bo qo la ca lp cp lb cb lq cq N) (ba : Boxed3 Z rA na a1 la c1 p1 lp e1) (bb : Boxed3 Z rB nb b1 lb d1 q1 lq f1) (ra : RowAt Z .u64 a1 la c1 x) (rd : RowAt Z .u64 p1 lp e1 d) (rb : RowAt Z .u64 b1 lb d1 y) (rf : RowAt Z .u64 q1 lq f1 f) (ja : RowAt Z .u64 ao la ca x) (jd : RowAt Z .u64 po lp cp d) (jb : RowAt Z .u64 bo lb cb y) (jf : RowAt Z .u64 qo lq cq f) (hp : P < Z.heap.size) (bw : Below w.heap.size w Z) :
  ExR w ((((Z.alloc (.cells #[.bool false, .slice none 0 0, .slice none 0 0] 28)).alloc (.cells #[.bool false, .slice none 0 0, .slice none 0 0] 28)).alloc (.cells #[.bool false, .slice none 0 0, .slice none 0 0] 28)).alloc (.cells #[.bool false, .slice none 0 0, .slice none 0 0] 28)) P rA rB Z.heap.size na nb ao po bo qo a1 p1 b1 q1 la ca lp cp lb cb lq cq c1 e1 d1 f1 N x d y f none none none none := by
 have hA : ∀ Y : World, Below Y.heap.size Y (Y.alloc (.cells #[.bool false, .slice none 0 0, .slice none 0 0] 28)) := fun Y => (Below.refl _ _).alloc (Nat.le_refl _) _
 have hv : ∀ Y : World, VarR (Y.alloc (.cells #[.bool false, .slice none 0 0, .slice none 0 0] 28)) Y.heap.size none := fun Y => VarR.zero
 have h0 := hv Z
 have h1 := hv (Z.alloc (.cells #[.bool false, .slice none 0 0, .slice none 0 0] 28))
 have h2 := hv ((Z.alloc (.cells #[.bool false, .slice none 0 0, .slice none 0 0] 28)).alloc (.cells #[.bool false, .slice none 0 0, .slice none 0 0] 28))
 have h3 := hv (((Z.alloc (.cells #[.bool false, .slice none 0 0, .slice none 0 0] 28)).alloc (.cells #[.bool false, .slice none 0 0, .slice none 0 0] 28)).alloc (.cells #[.bool false, .slice none 0 0, .slice none 0 0] 28))
 have e : ∀ Y : World, (Y.alloc (.cells #[.bool false, .slice none 0 0, .slice none 0 0] 28)).heap.size = Y.heap.size + 1 := fun Y => by simp
 simp only [e] at h1 h2 h3
 have hb := bnext (bnext (bnext (hA Z) (hA _)) (hA _)) (hA _)
 refine ⟨p.later hb hp, ba.later hb ba.lt, bb.later hb bb.lt, ra.later hb, rd.later hb, rb.later hb, rf.later hb, ja.later hb, jd.later hb, jb.later hb, jf.later hb, ((h0.later (hA _)).later (hA _)).later (hA _), (h1.later (hA _)).later (hA _), h2.later (hA _), h3, ⟨hp, ba.lt, bb.lt, bw.size⟩, by simp, bnext bw hb⟩
structure AnsR (B : Nat) (Z : World) (r : Nat) (n : Bool) (o : Option Addr) (l c : Nat) (p : Option Addr) (m k : Nat) (a : Rat) : Prop where
 box : Boxed3 Z r n o l c p m k
 slot : Slot3 Z r
 sg : n = sgB a.num
 own : Own B Z .u64 59 o l c (mag a.num.natAbs)
 own2 : Own B Z .u64 59 p m k (mag a.den)
 pt : Parted o p
 len : l ≤ 1000
 len2 : m ≤ 1000
 off : ∀ q : Addr, o = some q → q.block ≠ r
 off2 : ∀ q : Addr, p = some q → q.block ≠ r
theorem AnsR.new {B : Nat} {y : World} {n : Bool} {o p : Option Addr} {l c m k : Nat} {a : Rat} (hs : n = sgB a.num) (ho : Own B y .u64 59 o l c (mag a.num.natAbs)) (hp : Own B y .u64 59 p m k (mag a.den)) (hpt : Parted o p) (hl : l ≤ 1000) (hl' : m ≤ 1000) : AnsR B (y.alloc (.cells #[.bool n, .slice o l c, .slice p m k] 28)) y.heap.size n o l c p m k a := by
 have hA : Below y.heap.size y (y.alloc (.cells #[.bool n, .slice o l c, .slice p m k] 28)) := (Below.refl _ _).alloc (Nat.le_refl _) _
 exact ⟨boxed3_new, Slot3.new, hs, ho.later hA, hp.later hA, hpt, hl, hl', fun q hq e => by have := (ho.lt_of3 q hq).2; omega, fun q hq e => by have := (hp.lt_of3 q hq).2; omega⟩
theorem AnsR.put {B : Nat} {y : World} {r : Nat} {n : Bool} {o p : Option Addr} {l c m k : Nat} {a : Rat} (hr : Slot3 y r) (hrB : r < B) (hs : n = sgB a.num) (ho : Own B y .u64 59 o l c (mag a.num.natAbs)) (hp : Own B y .u64 59 p m k (mag a.den)) (hpt : Parted o p) (hl : l ≤ 1000) (hl' : m ≤ 1000) : AnsR B (((y.setCell ⟨r, 0, none⟩ (.bool n)).setCell ⟨r, 1, none⟩ (.slice o l c)).setCell ⟨r, 2, none⟩ (.slice p m k)) r n o l c p m k a :=
 ⟨boxed3_put hr, hr.put, hs, ho.store3 hrB _ _ _, hp.store3 hrB _ _ _, hpt, hl, hl', fun q hq e => by have := (ho.lt_of3 q hq).1; omega, fun q hq e => by have := (hp.lt_of3 q hq).1; omega⟩
def AnsRAt (Z0 wx : World) (r : Nat) (a : Rat) : Prop := ∃ B n o l c p m k, AnsR B wx r n o l c p m k a ∧ Z0.heap.size ≤ B ∧ B ≤ wx.heap.size ∧ Z0.heap.size ≤ r ∧ Below Z0.heap.size Z0 wx
def NilRAt (Z0 wx : World) (r : Nat) : Prop := Boxed3 wx r false none 0 0 none 0 0 ∧ Slot3 wx r ∧ Z0.heap.size ≤ r ∧ Below Z0.heap.size Z0 wx
theorem ans_new {Z0 y5 : World} {n : Bool} {o p : Option Addr} {l c m k : Nat} {a : Rat} (hb : Below Z0.heap.size Z0 y5) (hs : n = sgB a.num) (ho : Own Z0.heap.size y5 .u64 59 o l c (mag a.num.natAbs)) (hp : Own Z0.heap.size y5 .u64 59 p m k (mag a.den)) (hpt : Parted o p) (hl : l ≤ 1000) (hl' : m ≤ 1000) : AnsRAt Z0 (y5.alloc (.cells #[.bool n, .slice o l c, .slice p m k] 28)) y5.heap.size a :=
 ⟨_, _, _, _, _, _, _, _, AnsR.new hs ho hp hpt hl hl', Nat.le_refl _, Nat.le_trans hb.size (by simp), hb.size, below_alloc hb (Nat.le_refl _)⟩
theorem nil_new {Z0 y5 : World} (hb : Below Z0.heap.size Z0 y5) : NilRAt Z0 (y5.alloc (.cells #[.bool false, .slice none 0 0, .slice none 0 0] 28)) y5.heap.size := ⟨boxed3_new, Slot3.new, hb.size, below_alloc hb (Nat.le_refl _)⟩
theorem nil_put {Z0 Y y5 : World} {r : Nat} (hr : Slot3 Y r) (hK : Z0.heap.size ≤ r) (h0 : Below Z0.heap.size Z0 Y) (hb : Below Y.heap.size Y y5) : NilRAt Z0 (((y5.setCell ⟨r, 0, none⟩ (.bool false)).setCell ⟨r, 1, none⟩ (.slice none 0 0)).setCell ⟨r, 2, none⟩ (.slice none 0 0)) r :=
 ⟨boxed3_put (hr.at hb hr.lt), (hr.at hb hr.lt).put, hK, below_store3 (bnext h0 hb) hK _ _ _⟩
end Go.Proofs.YtiiefpnkpfliiaaGreatDoor
namespace Go.Proofs.YtiiefpnkpfliiaaGreatDoor
open Go.RowKit
theorem heavyR_any (na nb : Bool) (ao po bo qo : Option Addr) (la ca lp cp lb cb lq cq : Nat) (N : Int) (w : World) (c : Bool) (hc : ((decide ((8 : Int) < (la : Int)) || decide ((8 : Int) < (lp : Int))) || (decide ((8 : Int) < (lb : Int)) || decide ((8 : Int) < (lq : Int)))) = c) :
  Calls Tryz.prog 6 #[.agg #[.bool na, .slice ao la ca, .slice po lp cp, .bool nb, .slice bo lb cb, .slice qo lq cq, .int .i64 N]] w fun e w' => e = .returned (.bool c) ∧ Below w.heap.size w w' := by
 obtain ⟨W, hT⟩ := InR.mk' w na nb ao po bo qo la ca lp cp lb cb lq cq N
 have hsz := hT.size
 cases h1 : (decide ((8 : Int) < (la : Int)) || decide ((8 : Int) < (lp : Int)))
 ·
  have HC : Hid ((decide ((8 : Int) < (lb : Int)) || decide ((8 : Int) < (lq : Int))) = c) := by show _ = _; rw [← hc, h1, Bool.false_or]
  have H1 : Hid ((decide ((8 : Int) < (la : Int)) || decide ((8 : Int) < (lp : Int))) = false) := h1
  clear h1 hc
  go_enter Tryz.func6, Tryz.ntmps6
  go_wp2_with (first
   | (go_at_call 47; have _t := hb1; refine (longRat_any nb bo qo lb cb lq cq 8 _ c HC.out).mono ?_; rintro e w2 ⟨rfl, hb2⟩)
   | (go_at_call 47; rw [← hT.eq]; refine (longRat_any na ao po la ca lp cp 8 _ false H1.out).mono ?_; rintro e w1 ⟨rfl, hb1⟩; obtain ⟨q0, q1, q2, q3, q4, q5, q6⟩ := hT.p.later hb1 (by omega)))
  go_ret
  exact ⟨rfl, bnext hT.below (bnext hb1 hb2)⟩
 ·
  obtain rfl : c = true := by rw [← hc, h1]; rfl
  have H1 : Hid ((decide ((8 : Int) < (la : Int)) || decide ((8 : Int) < (lp : Int))) = true) := h1
  clear h1 hc
  go_enter Tryz.func6, Tryz.ntmps6
  go_wp2_with (go_at_call 47; rw [← hT.eq]; refine (longRat_any na ao po la ca lp cp 8 _ true H1.out).mono ?_; rintro e w1 ⟨rfl, hb1⟩)
  go_ret
  exact ⟨rfl, bnext hT.below hb1⟩
end Go.Proofs.YtiiefpnkpfliiaaGreatDoor
