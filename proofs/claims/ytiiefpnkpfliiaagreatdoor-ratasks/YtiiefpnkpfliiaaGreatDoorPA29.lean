/-
  RatAsks: the walk. (gen/rasks.py)
-/
import Derived.Test.YtiiefpnkpfliiaaGreatDoorPA28
import Derived.Deep.DeepCutAuto
namespace Go.Proofs.YtiiefpnkpfliiaaGreatDoor
open Go.RowKit
set_option linter.unusedVariables false
set_option linter.unusedSimpArgs false
theorem sz_abs {a : Rat} {k : Nat} (h : Sz a k) : Sz (absR a) k := ⟨by rw [absR_num, Int.natAbs_natCast]; exact h.1, h.2⟩
theorem int_sz2 {a : Rat} (h : Sz a 8) : Sz (a.num : Rat) 8 := ⟨h.1, Nat.le_trans (show (mag 1).length ≤ 1 by decide) (by decide)⟩
theorem num2_bel (n : Int) (w : World) : Calls Tryz.prog 9 #[.int .i64 n] w fun e w' => e = .returned (.int .i64 n) ∧ Below w.heap.size w w' :=
  (num2_any n w).mono fun e w' ⟨h1, h2⟩ => ⟨h1, by rw [h2]; exact Below.refl _ _⟩
theorem put3_size {y : World} {r : Nat} {a b c : Value} : (((y.setCell ⟨r, 0, none⟩ a).setCell ⟨r, 1, none⟩ b).setCell ⟨r, 2, none⟩ c).heap.size = y.heap.size := by simp [World.setCell]
theorem nv_r {y : World} {n n' : Bool} {o p o' p' : Option Addr} {l c m k l' c' m' k' r : Nat} {v : Rat} (h : RatAt y n o l c p m k v) (hB : Boxed3 y r n' o' l' c' p' m' k') : RVar (((y.setCell ⟨r, 0, none⟩ (.bool n)).setCell ⟨r, 1, none⟩ (.slice o l c)).setCell ⟨r, 2, none⟩ (.slice p m k)) r n o l c p m k v :=
  ⟨boxed_set hB.1 hB.2.1 hB.2.2, rat_kept h hB, by rw [put3_size]; exact cell_lt hB.1⟩
set_option maxRecDepth 100000 in
set_option maxHeartbeats 40000000 in
theorem ratAsks_any (lo : Option Addr) (len cap : Nat) (w : World) (hE : ElemsR w lo len) (hl : len ≤ 9223372036854775807) (hT0 : TabAt 0 Lib.deBruijn64tab w) (hP0 : Pow10 w) :
    Calls Tryz.prog 3 #[.slice lo len cap] w fun e w' => e = .returned (.bool true) ∧ Below w.heap.size w w' := by
  have HT : Hid (TabAt 0 Lib.deBruijn64tab w ∧ Pow10 w) := ⟨hT0, hP0⟩
  clear hT0 hP0
  go_enter Tryz.func3, Tryz.ntmps3
  go_wp2
  go_loopw [3] (fun i wr => ∃ k : Nat, k ≤ len ∧ k ≤ 30 ∧ i = .int .i64 k ∧ Below w.heap.size w wr) (fun i _ => 30 - (intOf i).toNat)
  case atStart => exact ⟨0, Nat.zero_le _, by omega, rfl, Below.refl _ _⟩
  case round =>
    obtain ⟨k, hk, hk30, rfl, hbel⟩ := hrel
    by_cases hlt : k < len ∧ k < 30
    · obtain ⟨hlt, hlt30⟩ := hlt
      obtain ⟨b, off, rfl, hbw, hel⟩ := hE k hlt
      obtain ⟨na, nb, ao, po, bo, qo, la, ca, lp, cp, lb, cb, lq, cq, N, x, d, y, f, ⟨h0, h1, h2, h3, h4, h5, h6⟩, r1, v1, r2, v2, r3, v3, r4, v4, hn1, hn2⟩ := hel.later hbel hbw
      obtain ⟨W, hT⟩ := InR.mk' wr na nb ao po bo qo la ca lp cp lb cb lq cq N
      have hsz := hT.size
      have hbW : Below w.heap.size w W := bnext hbel hT.below
      have HX : Hid (RowAt W .u64 ao la ca x ∧ RowAt W .u64 po lp cp d ∧ RowAt W .u64 bo lb cb y ∧ RowAt W .u64 qo lq cq f) := ⟨r1.later hT.below, r2.later hT.below, r3.later hT.below, r4.later hT.below⟩
      have HWd : Hid (Wd 18446744073709551616 x ∧ Wd 18446744073709551616 d ∧ Wd 18446744073709551616 y ∧ Wd 18446744073709551616 f) := ⟨v1, v2, v3, v4⟩
      have HTW : Hid (TabAt 0 Lib.deBruijn64tab W ∧ Pow10 W) := ⟨tab_later HT.out.1 hbW, HT.out.2.later hbW⟩
      clear r1 r2 r3 r4 v1 v2 v3 v4 hel
      go_upto_region 5 with fail
      rw [← hT.eq]
      clear h0 h1 h2 h3 h4 h5 h6
      obtain ⟨q0, q1, q2, q3, q4, q5, q6⟩ := hT.p
      cases hhv : ((decide ((8 : Int) < (la : Int)) || decide ((8 : Int) < (lp : Int))) || (decide ((8 : Int) < (lb : Int)) || decide ((8 : Int) < (lq : Int))))
      · have HH : Hid (((decide ((8 : Int) < (la : Int)) || decide ((8 : Int) < (lp : Int))) || (decide ((8 : Int) < (lb : Int)) || decide ((8 : Int) < (lq : Int)))) = false) := hhv
        have hla : la ≤ 8 := by simp at hhv; omega
        have hlp : lp ≤ 8 := by simp at hhv; omega
        have hlb : lb ≤ 8 := by simp at hhv; omega
        have hlq : lq ≤ 8 := by simp at hhv; omega
        clear hhv
        cases hm : mayR na x d
        · as_aux_lemma =>
          have HM : Hid (mayR na x d = false) := hm
          clear hm
          go_upto_region 10 with (first
            | (go_at_call 7; have _t := hb1; refine (qmay_any na ao po la ca lp cp x d _ (HX.out.1.later hb1) HWd.out.1 (HX.out.2.1.later hb1) HWd.out.2.1 (by omega) (by omega) false HM.out).mono ?_; rintro e w2 ⟨rfl, hb⟩; have hb2 := bnext hb1 hb; clear hb; clear q0 q1 q2 q3 q4 q5 q6; obtain ⟨q0, q1, q2, q3, q4, q5, q6⟩ := hT.p.later hb2 (by omega))
            | (go_at_call 6; refine (heavyR_any na nb ao po bo qo la ca lp cp lb cb lq cq N _ false HH.out).mono ?_; rintro e w1 ⟨rfl, hb1⟩; clear q0 q1 q2 q3 q4 q5 q6; obtain ⟨q0, q1, q2, q3, q4, q5, q6⟩ := hT.p.later hb1 (by omega)))
          go_cut [6, 7] (fun s6 s7 wx => ∃ r, s6 = .pointer (some ⟨r, 0, none⟩) ∧ s7 = .bool false ∧ Boxed wx r false none 0 0 ∧ W.heap.size ≤ r ∧ Below W.heap.size W wx)
          case first => as_aux_lemma =>
            go_wp2_with (go_at_call 8; refine (rwhole_bad na ao po la ca lp cp x d _ (HX.out.1.later hb2) HWd.out.1 (HX.out.2.1.later hb2) HWd.out.2.1 (by omega) (by omega) (tab_later HTW.out.1 hb2) HM.out).mono ?_; rintro e w3 ⟨rfl, hb3⟩)
            go_meet
            exact ⟨_, rfl, rfl, ⟨by simp [go_sem], by simp [go_sem]⟩, (bnext hb2 hb3).size, below_alloc (bnext hb2 hb3) (Nat.le_refl _)⟩
          case rest => as_aux_lemma =>
            obtain ⟨r, rfl, rfl, hbx, hrW, hbZ⟩ := hcut
            obtain ⟨Z, hZ⟩ : ∃ Z, Z = wc := ⟨_, rfl⟩
            rw [← hZ] at hbx hbZ
            rw [← hZ]
            clear hZ q0 q1 q2 q3 q4 q5 q6
            have hzW := hbZ.size
            have hrZ : r < Z.heap.size := cell_lt hbx.1
            have HZ : Hid ((RowAt Z .u64 ao la ca x ∧ RowAt Z .u64 po lp cp d) ∧ TabAt 0 Lib.deBruijn64tab Z ∧ Below w.heap.size w Z) := ⟨⟨HX.out.1.later hbZ, HX.out.2.1.later hbZ⟩, tab_later HTW.out.1 hbZ, bnext hbW hbZ⟩
            have HP : Hid (Boxed7 Z wr.heap.size na nb ao po bo qo la ca lp cp lb cb lq cq N ∧ Boxed Z r false none 0 0) := ⟨hT.p.later hbZ (by omega), hbx⟩
            have hpZ : wr.heap.size < Z.heap.size := by omega
            clear hb1 hb2 hbZ hbx HX HTW HH hT hbW hsz hrW hzW hbw
            obtain ⟨q0, q1, q2, q3, q4, q5, q6⟩ := HP.out.1
            obtain ⟨g0, g1⟩ := HP.out.2
            have hz0 : Below Z.heap.size Z Z := Below.refl _ _
            clear hpZ
            have hpZ : wr.heap.size < Z.heap.size := cell_lt q0
            go_wp2_with (first
              | (go_at_call 18; have _t := hz11; refine (rtext_bad na ao po la ca lp cp x d _ (HZ.out.1.1.later hz11) HWd.out.1 (HZ.out.1.2.later hz11) HWd.out.2.1 (by omega) (by omega) (tab_later HZ.out.2.1 hz11) HM.out).mono ?_; rintro e z12 ⟨rfl, hb⟩; have hz12 := bnext hz11 hb; clear hb; clear q0 q1 q2 q3 q4 q5 q6 g0 g1; obtain ⟨q0, q1, q2, q3, q4, q5, q6⟩ := HP.out.1.later hz12 hpZ; obtain ⟨g0, g1⟩ := HP.out.2.later hz12 hrZ)
              | (go_at_call 11; have _t := hz10; refine (eqint_same false none none 0 0 0 0 [] _ (RowAt.nilRow _ _) (RowAt.nilRow _ _) (by omega)).mono ?_; rintro e z11 ⟨rfl, hb⟩; have hz11 := bnext hz10 hb; clear hb; clear q0 q1 q2 q3 q4 q5 q6 g0 g1; obtain ⟨q0, q1, q2, q3, q4, q5, q6⟩ := HP.out.1.later hz11 hpZ; obtain ⟨g0, g1⟩ := HP.out.2.later hz11 hrZ)
              | (go_at_call 17; have _t := hz9; refine (rfloor_bad na ao po la ca lp cp x d _ (HZ.out.1.1.later hz9) HWd.out.1 (HZ.out.1.2.later hz9) HWd.out.2.1 (by omega) (by omega) (tab_later HZ.out.2.1 hz9) HM.out).mono ?_; rintro e z10 ⟨rfl, hb⟩; have hz10 := bnext hz9 hb; clear hb; clear q0 q1 q2 q3 q4 q5 q6 g0 g1; obtain ⟨q0, q1, q2, q3, q4, q5, q6⟩ := HP.out.1.later hz10 hpZ; obtain ⟨g0, g1⟩ := HP.out.2.later hz10 hrZ)
              | (go_at_call 14; have _t := hz8; refine (eqraw_same false none none none none 0 0 0 0 0 0 0 0 [] [] _ (RowAt.nilRow _ _) (RowAt.nilRow _ _) (RowAt.nilRow _ _) (RowAt.nilRow _ _) (by omega) (by omega)).mono ?_; rintro e z9 ⟨rfl, hb⟩; have hz9 := bnext hz8 hb; clear hb; clear q0 q1 q2 q3 q4 q5 q6 g0 g1; obtain ⟨q0, q1, q2, q3, q4, q5, q6⟩ := HP.out.1.later hz9 hpZ; obtain ⟨g0, g1⟩ := HP.out.2.later hz9 hrZ)
              | (go_at_call 16; have _t := hz7; refine (rabs_bad na ao po la ca lp cp x d _ (HZ.out.1.1.later hz7) HWd.out.1 (HZ.out.1.2.later hz7) HWd.out.2.1 (by omega) (by omega) (tab_later HZ.out.2.1 hz7) HM.out).mono ?_; rintro e z8 ⟨rfl, hb⟩; have hz8 := bnext hz7 hb; clear hb; clear q0 q1 q2 q3 q4 q5 q6 g0 g1; obtain ⟨q0, q1, q2, q3, q4, q5, q6⟩ := HP.out.1.later hz8 hpZ; obtain ⟨g0, g1⟩ := HP.out.2.later hz8 hrZ)
              | (go_at_call 14; have _t := hz6; refine (eqraw_same false none none none none 0 0 0 0 0 0 0 0 [] [] _ (RowAt.nilRow _ _) (RowAt.nilRow _ _) (RowAt.nilRow _ _) (RowAt.nilRow _ _) (by omega) (by omega)).mono ?_; rintro e z7 ⟨rfl, hb⟩; have hz7 := bnext hz6 hb; clear hb; clear q0 q1 q2 q3 q4 q5 q6 g0 g1; obtain ⟨q0, q1, q2, q3, q4, q5, q6⟩ := HP.out.1.later hz7 hpZ; obtain ⟨g0, g1⟩ := HP.out.2.later hz7 hrZ)
              | (go_at_call 15; have _t := hz5; refine (rneg_bad na ao po la ca lp cp x d _ (HZ.out.1.1.later hz5) HWd.out.1 (HZ.out.1.2.later hz5) HWd.out.2.1 (by omega) (by omega) (tab_later HZ.out.2.1 hz5) HM.out).mono ?_; rintro e z6 ⟨rfl, hb⟩; have hz6 := bnext hz5 hb; clear hb; clear q0 q1 q2 q3 q4 q5 q6 g0 g1; obtain ⟨q0, q1, q2, q3, q4, q5, q6⟩ := HP.out.1.later hz6 hpZ; obtain ⟨g0, g1⟩ := HP.out.2.later hz6 hrZ)
              | (go_at_call 13; have _t := hz4; refine (rsign_bad na ao po la ca lp cp x d _ (HZ.out.1.1.later hz4) HWd.out.1 (HZ.out.1.2.later hz4) HWd.out.2.1 (by omega) (by omega) (tab_later HZ.out.2.1 hz4) HM.out).mono ?_; rintro e z5 ⟨rfl, hb⟩; have hz5 := bnext hz4 hb; clear hb; clear q0 q1 q2 q3 q4 q5 q6 g0 g1; obtain ⟨q0, q1, q2, q3, q4, q5, q6⟩ := HP.out.1.later hz5 hpZ; obtain ⟨g0, g1⟩ := HP.out.2.later hz5 hrZ)
              | (go_at_call 12; have _t := hz3; refine (rdyadic_bad na ao po la ca lp cp x d _ (HZ.out.1.1.later hz3) HWd.out.1 (HZ.out.1.2.later hz3) HWd.out.2.1 (by omega) (by omega) (tab_later HZ.out.2.1 hz3) HM.out).mono ?_; rintro e z4 ⟨rfl, hb⟩; have hz4 := bnext hz3 hb; clear hb; clear q0 q1 q2 q3 q4 q5 q6 g0 g1; obtain ⟨q0, q1, q2, q3, q4, q5, q6⟩ := HP.out.1.later hz4 hpZ; obtain ⟨g0, g1⟩ := HP.out.2.later hz4 hrZ)
              | (go_at_call 11; have _t := hz2; refine (eqint_same false none none 0 0 0 0 [] _ (RowAt.nilRow _ _) (RowAt.nilRow _ _) (by omega)).mono ?_; rintro e z3 ⟨rfl, hb⟩; have hz3 := bnext hz2 hb; clear hb; clear q0 q1 q2 q3 q4 q5 q6 g0 g1; obtain ⟨q0, q1, q2, q3, q4, q5, q6⟩ := HP.out.1.later hz3 hpZ; obtain ⟨g0, g1⟩ := HP.out.2.later hz3 hrZ)
              | (go_at_call 9; have _t := hz1; refine (num2_bel 20 _).mono ?_; rintro e z2 ⟨rfl, hb⟩; have hz2 := bnext hz1 hb; clear hb; clear q0 q1 q2 q3 q4 q5 q6 g0 g1; obtain ⟨q0, q1, q2, q3, q4, q5, q6⟩ := HP.out.1.later hz2 hpZ; obtain ⟨g0, g1⟩ := HP.out.2.later hz2 hrZ)
              | (go_at_call 10; have _t := hz0; refine (rcheck_bad na ao po la ca lp cp x d _ (HZ.out.1.1.later hz0) HWd.out.1 (HZ.out.1.2.later hz0) HWd.out.2.1 (by omega) (by omega) (tab_later HZ.out.2.1 hz0) HM.out).mono ?_; rintro e z1 ⟨rfl, hb⟩; have hz1 := bnext hz0 hb; clear hb; clear q0 q1 q2 q3 q4 q5 q6 g0 g1; obtain ⟨q0, q1, q2, q3, q4, q5, q6⟩ := HP.out.1.later hz1 hpZ; obtain ⟨g0, g1⟩ := HP.out.2.later hz1 hrZ))
            go_roundw
            case rel => exact ⟨k + 1, by omega, by omega, by go_num, bnext HZ.out.2.2 hz12⟩
            case measure => simp [intOf]; omega
        · as_aux_lemma =>
          have HM : Hid (mayR na x d = true) := hm
          obtain ⟨va, hIa, hxa, hda⟩ := rat_of_may HX.out.1 HWd.out.1 HX.out.2.1 HWd.out.2.1 hm
          have HA : Hid (RatAt W na ao la ca po lp cp va ∧ Sz va 8) := ⟨hIa, ⟨by rw [← hIa.num.row.hlen]; exact hla, by rw [← hIa.den.hlen]; exact hlp⟩⟩
          have HXa : Hid (x = mag va.num.natAbs ∧ na = sgB va.num) := ⟨hxa, hIa.num.sg⟩
          clear hm hIa hxa hda
          obtain ⟨bw, hbw'⟩ : ∃ b, decide (va.den = 1) = b := ⟨_, rfl⟩
          have HBW : Hid (decide (va.den = 1) = bw) := hbw'
          obtain ⟨zn, zs, hzz⟩ : ∃ (zn : Bool) (zs : List Int), (bw = true → zn = na ∧ zs = x) ∧ (bw = false → zn = false ∧ zs = []) ∧ zs.length ≤ 8 := (by
            cases bw
            · exact ⟨false, [], (fun h => by cases h), (fun _ => ⟨rfl, rfl⟩), by simp⟩
            · exact ⟨na, x, (fun _ => ⟨rfl, rfl⟩), (fun h => by cases h), by rw [← HX.out.1.hlen]; exact hla⟩)
          have HZZ : Hid ((bw = true → zn = na ∧ zs = x) ∧ (bw = false → zn = false ∧ zs = []) ∧ zs.length ≤ 8) := hzz
          clear hbw' hzz
          go_upto_region 10 with (first
            | (go_at_call 7; have _t := hb1; refine (qmay_any na ao po la ca lp cp x d _ (HX.out.1.later hb1) HWd.out.1 (HX.out.2.1.later hb1) HWd.out.2.1 (by omega) (by omega) true HM.out).mono ?_; rintro e w2 ⟨rfl, hb⟩; have hb2 := bnext hb1 hb; clear hb; clear q0 q1 q2 q3 q4 q5 q6; obtain ⟨q0, q1, q2, q3, q4, q5, q6⟩ := hT.p.later hb2 (by omega))
            | (go_at_call 6; refine (heavyR_any na nb ao po bo qo la ca lp cp lb cb lq cq N _ false HH.out).mono ?_; rintro e w1 ⟨rfl, hb1⟩; clear q0 q1 q2 q3 q4 q5 q6; obtain ⟨q0, q1, q2, q3, q4, q5, q6⟩ := hT.p.later hb1 (by omega)))
          go_cut [6, 7] (fun s6 s7 wx => ∃ r o l c, s6 = .pointer (some ⟨r, 0, none⟩) ∧ s7 = .bool bw ∧ Boxed wx r zn o l c ∧ RowAt wx .u64 o l c zs ∧ W.heap.size ≤ r ∧ Below W.heap.size W wx)
          case first =>
            cases bw
            · as_aux_lemma =>
              obtain ⟨rfl, rfl⟩ := HZZ.out.2.1 rfl
              go_wp2_with (go_at_call 8; refine (whole_no na ao po la ca lp cp va _ (HA.out.1.later hb2) (by omega) (by omega) (tab_later HTW.out.1 hb2) (of_decide_eq_false HBW.out)).mono ?_; rintro e w3 ⟨rfl, hb3⟩)
              go_meet
              exact ⟨_, _, _, _, rfl, rfl, ⟨by simp [go_sem], by simp [go_sem]⟩, RowAt.nilRow _ _, (bnext hb2 hb3).size, below_alloc (bnext hb2 hb3) (Nat.le_refl _)⟩
            · as_aux_lemma =>
              obtain ⟨hzn, hzs⟩ := HZZ.out.1 rfl
              replace hzn := hzn.symm
              replace hzs := hzs.symm
              subst hzn hzs
              go_wp2_with (go_at_call 8; refine (whole_yes na ao po la ca lp cp va _ (HA.out.1.later hb2) (by omega) (by omega) (tab_later HTW.out.1 hb2) (of_decide_eq_true HBW.out)).mono ?_; rintro e w3 ⟨n3, o3, l3, c3, rfl, hi3, hb3⟩; have H3 : Hid (IntAt w3 n3 o3 l3 c3 va.num ∧ Below W.heap.size W w3) := ⟨hi3, bnext hb2 hb3⟩; clear hi3 hb3)
              go_meet
              refine ⟨_, o3, l3, c3, rfl, rfl, ?_, ?_, H3.out.2.size, below_alloc H3.out.2 (Nat.le_refl _)⟩
              · have h9 : n3 = na := H3.out.1.sg.trans HXa.out.2.symm
                rw [← h9]
                exact ⟨by simp [go_sem], by simp [go_sem]⟩
              · rw [HXa.out.1]; exact H3.out.1.row.later ((Below.refl _ _).alloc (Nat.le_refl _) _)
          case rest => as_aux_lemma =>
            obtain ⟨r6, o6, l6, c6, rfl, rfl, hbx, hr6, hrW, hbZ⟩ := hcut
            obtain ⟨Z, hZ⟩ : ∃ Z, Z = wc := ⟨_, rfl⟩
            rw [← hZ] at hbx hr6 hbZ
            rw [← hZ]
            clear hZ q0 q1 q2 q3 q4 q5 q6
            have hzW := hbZ.size
            have hl6 : l6 ≤ 8 := by rw [hr6.hlen]; exact HZZ.out.2.2
            have HZ : Hid (RatAt Z na ao la ca po lp cp va ∧ TabAt 0 Lib.deBruijn64tab Z ∧ Below w.heap.size w Z ∧ (RowAt Z .u64 bo lb cb y ∧ RowAt Z .u64 qo lq cq f) ∧ (RowAt Z .u64 ao la ca x ∧ RowAt Z .u64 po lp cp d) ∧ RowAt Z .u64 o6 l6 c6 zs ∧ Pow10 Z) := ⟨HA.out.1.later hbZ, tab_later HTW.out.1 hbZ, bnext hbW hbZ, ⟨HX.out.2.2.1.later hbZ, HX.out.2.2.2.later hbZ⟩, ⟨HX.out.1.later hbZ, HX.out.2.1.later hbZ⟩, hr6, HTW.out.2.later hbZ⟩
            have HP : Hid (Boxed7 Z wr.heap.size na nb ao po bo qo la ca lp cp lb cb lq cq N ∧ Boxed Z r6 zn o6 l6 c6) := ⟨hT.p.later hbZ (by omega), hbx⟩
            have hpZ : wr.heap.size < Z.heap.size := by omega
            have hrZ : r6 < Z.heap.size := cell_lt hbx.1
            have HSz : Hid (Sz va 8) := HA.out.2
            clear hb1 hb2 hbZ hbx hr6 HX HTW HH hT hbW hsz hrW hzW hbw HA HXa
            obtain ⟨q0, q1, q2, q3, q4, q5, q6⟩ := HP.out.1
            obtain ⟨g0, g1⟩ := HP.out.2
            have hz0 : Below Z.heap.size Z Z := Below.refl _ _
            go_upto_region 16 with (first
              | (go_at_call 9; have _t := hz1; refine (num2_bel 0 _).mono ?_; rintro e z2 ⟨rfl, hb⟩; have hz2 := bnext hz1 hb; clear hb; clear q0 q1 q2 q3 q4 q5 q6 g0 g1; obtain ⟨q0, q1, q2, q3, q4, q5, q6⟩ := HP.out.1.later hz2 hpZ; obtain ⟨g0, g1⟩ := HP.out.2.later hz2 hrZ)
              | (go_at_call 10; have _t := hz0; refine (rcheck_good na ao po la ca lp cp va _ (HZ.out.1.later hz0) (by omega) (by omega) (tab_later HZ.out.2.1 hz0)).mono ?_; rintro e z1 ⟨rfl, hb⟩; have hz1 := bnext hz0 hb; clear hb; clear q0 q1 q2 q3 q4 q5 q6 g0 g1; obtain ⟨q0, q1, q2, q3, q4, q5, q6⟩ := HP.out.1.later hz1 hpZ; obtain ⟨g0, g1⟩ := HP.out.2.later hz1 hrZ))
            go_cut [8] (fun s8 wx => ∃ r, s8 = .pointer (some ⟨r, 0, none⟩) ∧ Boxed wx r false none 0 0 ∧ (∀ j, wx.frozen? ⟨r, j, none⟩ = false) ∧ Z.heap.size ≤ r ∧ Below Z.heap.size Z wx)
            case first => as_aux_lemma =>
              go_wp2
              go_meet
              exact ⟨_, rfl, ⟨by simp [go_sem], by simp [go_sem]⟩, fun j => by simp [go_sem], hz2.size, below_alloc hz2 (Nat.le_refl _)⟩
            case rest => as_aux_lemma =>
              obtain ⟨r8, rfl, hbx, hfx, hr8, hbY⟩ := hcut
              obtain ⟨Y, hY⟩ : ∃ Z, Z = wc := ⟨_, rfl⟩
              rw [← hY] at hbx hfx hbY
              rw [← hY]
              clear hY q0 q1 q2 q3 q4 q5 q6 g0 g1 hz0 hz1 hz2
              have HY : Hid (Below Z.heap.size Z Y ∧ Boxed Y r8 false none 0 0 ∧ (∀ j, Y.frozen? ⟨r8, j, none⟩ = false)) := ⟨hbY, hbx, hfx⟩
              have hzY := hbY.size
              have hr8Y : r8 < Y.heap.size := cell_lt hbx.1
              have hr68 : r6 ≠ r8 := by omega
              have hp8 : wr.heap.size ≠ r8 := by omega
              obtain ⟨q0, q1, q2, q3, q4, q5, q6⟩ := HP.out.1.later hbY hpZ
              clear hbx hfx hbY
              go_upto_region 17 with fail
              go_cut [95] (fun s95 wx => s95 = .bool bw ∧ Below Y.heap.size Y wx)
              case first => as_aux_lemma =>
                go_wp2_with (go_at_call 19; refine (isWhole_any na ao po la ca lp cp va.den _ (HZ.out.1.den.later HY.out.1) bw HBW.out).mono ?_; rintro e y1 ⟨rfl, hb⟩)
                go_meet
                exact ⟨rfl, hb⟩
              case rest => as_aux_lemma =>
                obtain ⟨rfl, hbX⟩ := hcut
                obtain ⟨X, hX⟩ : ∃ Z, Z = wc := ⟨_, rfl⟩
                rw [← hX] at hbX
                rw [← hX]
                clear hX q0 q1 q2 q3 q4 q5 q6
                have HXX : Hid (Below Y.heap.size Y X ∧ Below Z.heap.size Z X) := ⟨hbX, bnext HY.out.1 hbX⟩
                obtain ⟨q0, q1, q2, q3, q4, q5, q6⟩ := HP.out.1.later HXX.out.2 hpZ
                obtain ⟨b0, b1⟩ := HY.out.2.1.later hbX hr8Y
                have b2 : ∀ j, X.frozen? ⟨r8, j, none⟩ = false := fun j => (hbX.frozen (p := ⟨r8, j, none⟩) hr8Y).trans (HY.out.2.2 j)
                clear hbX
                go_upto_if 95 with fail
                go_cut [98] (fun s98 wx => ∃ o l c, Boxed wx r8 zn o l c ∧ RowAt wx .u64 o l c zs ∧ Below Z.heap.size Z wx)
                case first =>
                  cases bw
                  · as_aux_lemma =>
                    obtain ⟨rfl, rfl⟩ := HZZ.out.2.1 rfl
                    go_wp2
                    go_meet
                    exact ⟨_, _, _, ⟨b0, b1⟩, RowAt.nilRow _ _, HXX.out.2⟩
                  · as_aux_lemma =>
                    obtain ⟨hzn, hzs⟩ := HZZ.out.1 rfl
                    replace hzn := hzn.symm
                    replace hzs := hzs.symm
                    subst hzn hzs
                    go_wp2
                    go_meet
                    exact ⟨_, _, _, boxed_new ⟨b0, b1⟩, (HZ.out.2.2.2.2.1.1.later HXX.out.2).boxed ⟨b0, b1⟩ _ _, below_store HXX.out.2 hr8 _ _⟩
                case rest => as_aux_lemma =>
                  obtain ⟨o8, l8, c8, hbx, hrx, hbQ⟩ := hcut
                  obtain ⟨Q, hQ⟩ : ∃ Z, Z = wc := ⟨_, rfl⟩
                  rw [← hQ] at hbx hrx hbQ
                  rw [← hQ]
                  clear hQ q0 q1 q2 q3 q4 q5 q6 b0 b1 b2
                  have hsQ := hbQ.size
                  have hr8Q : r8 < Q.heap.size := cell_lt hbx.1
                  have HQ : Hid (RatAt Q na ao la ca po lp cp va ∧ TabAt 0 Lib.deBruijn64tab Q ∧ Below w.heap.size w Q ∧ (RowAt Q .u64 bo lb cb y ∧ RowAt Q .u64 qo lq cq f) ∧ (RowAt Q .u64 ao la ca x ∧ RowAt Q .u64 po lp cp d) ∧ (RowAt Q .u64 o6 l6 c6 zs ∧ RowAt Q .u64 o8 l8 c8 zs) ∧ Pow10 Q) := ⟨HZ.out.1.later hbQ, tab_later HZ.out.2.1 hbQ, bnext HZ.out.2.2.1 hbQ, ⟨HZ.out.2.2.2.1.1.later hbQ, HZ.out.2.2.2.1.2.later hbQ⟩, ⟨HZ.out.2.2.2.2.1.1.later hbQ, HZ.out.2.2.2.2.1.2.later hbQ⟩, ⟨HZ.out.2.2.2.2.2.1.later hbQ, hrx⟩, HZ.out.2.2.2.2.2.2.later hbQ⟩
                  have HPQ : Hid (Boxed7 Q wr.heap.size na nb ao po bo qo la ca lp cp lb cb lq cq N ∧ Boxed Q r6 zn o6 l6 c6 ∧ Boxed Q r8 zn o8 l8 c8) := ⟨HP.out.1.later hbQ hpZ, HP.out.2.later hbQ hrZ, hbx⟩
                  have hpQ : wr.heap.size < Q.heap.size := by omega
                  have hr6Q : r6 < Q.heap.size := by omega
                  clear hbx hrx hbQ HY HXX HZ HP hr8Y hzY
                  obtain ⟨q0, q1, q2, q3, q4, q5, q6⟩ := HPQ.out.1
                  obtain ⟨g0, g1⟩ := HPQ.out.2.1
                  obtain ⟨k0, k1⟩ := HPQ.out.2.2
                  have hz0 : Below Q.heap.size Q Q := Below.refl _ _
                  obtain ⟨dy, hdy⟩ : ∃ b : Bool, ((∃ k, va.den = 2 ^ k) ↔ b = true) := (by
                    by_cases h : ∃ k, va.den = 2 ^ k
                    · exact ⟨true, ⟨fun _ => rfl, fun _ => h⟩⟩
                    · exact ⟨false, ⟨fun h' => absurd h' h, fun h' => by cases h'⟩⟩)
                  have HDY : Hid ((∃ k, va.den = 2 ^ k) ↔ dy = true) := hdy
                  have HD1 : Hid (∀ X, Below Q.heap.size Q X → Calls Tryz.prog 12 #[.agg #[.bool na, .slice ao la ca, .slice po lp cp]] X fun e w' => e = .returned (.bool dy) ∧ Below X.heap.size X w') := (fun X h => by
                    cases dy
                    · exact rdyadic_no na ao po la ca lp cp va X (HQ.out.1.later h) (by omega) (by omega) (tab_later HQ.out.2.1 h) (fun k e => by have := HDY.out.1 ⟨k, e⟩; cases this)
                    · obtain ⟨k, hk⟩ := HDY.out.2 rfl
                      exact rdyadic_yes na ao po la ca lp cp va X (HQ.out.1.later h) (by omega) (by omega) (tab_later HQ.out.2.1 h) k hk)
                  obtain ⟨sg, hsg⟩ : ∃ c, cmpI va.num 0 = c := ⟨_, rfl⟩
                  have HSG : Hid (cmpI va.num 0 = sg) := hsg
                  obtain ⟨vq, hvq⟩ : ∃ c, va.num / (va.den : Int) = c := ⟨_, rfl⟩
                  have HVQ : Hid (va.num / (va.den : Int) = vq ∧ (mag vq.natAbs).length ≤ 10) := ⟨hvq, by rw [← hvq]; have h1 := floor_len va; have h2 := HSz.out.1; omega⟩
                  have HVX : Hid (na = sgB va.num) := HQ.out.1.num.sg
                  clear hdy hsg hvq
                  have KSQ : Hid (∀ w' : World, Below Q.heap.size Q w' → w'.cell? ⟨wr.heap.size, 0, none⟩ = some (.bool na) ∧ w'.cell? ⟨wr.heap.size, 1, none⟩ = some (.slice ao la ca) ∧ w'.cell? ⟨wr.heap.size, 2, none⟩ = some (.slice po lp cp) ∧ w'.cell? ⟨wr.heap.size, 3, none⟩ = some (.bool nb) ∧ w'.cell? ⟨wr.heap.size, 4, none⟩ = some (.slice bo lb cb) ∧ w'.cell? ⟨wr.heap.size, 5, none⟩ = some (.slice qo lq cq) ∧ w'.cell? ⟨wr.heap.size, 6, none⟩ = some (.int .i64 N) ∧ w'.cell? ⟨r6, 0, none⟩ = some (.bool zn) ∧ w'.cell? ⟨r6, 1, none⟩ = some (.slice o6 l6 c6) ∧ w'.cell? ⟨r8, 0, none⟩ = some (.bool zn) ∧ w'.cell? ⟨r8, 1, none⟩ = some (.slice o8 l8 c8)) := fun w' h => (by obtain ⟨a0, a1, a2, a3, a4, a5, a6⟩ := HPQ.out.1.later h hpQ; obtain ⟨m0, m1⟩ := HPQ.out.2.1.later h hr6Q; obtain ⟨u0, u1⟩ := HPQ.out.2.2.later h hr8Q; exact ⟨a0, a1, a2, a3, a4, a5, a6, m0, m1, u0, u1⟩)
                  clear q0 q1 q2 q3 q4 q5 q6 g0 g1 k0 k1 hz0
                  go_upto_region 19 with fail
                  go_cut [169] (fun s169 wx => s169 = .bool false ∧ Below Q.heap.size Q wx)
                  case first => as_aux_lemma =>
                    refine wp_region_noPanic ?_
                    refine wp_region_held_drew (S := fun w' => (w'.cell? ⟨wr.heap.size, 0, none⟩ = some (.bool na) ∧ w'.cell? ⟨wr.heap.size, 1, none⟩ = some (.slice ao la ca) ∧ w'.cell? ⟨wr.heap.size, 2, none⟩ = some (.slice po lp cp) ∧ w'.cell? ⟨wr.heap.size, 3, none⟩ = some (.bool nb) ∧ w'.cell? ⟨wr.heap.size, 4, none⟩ = some (.slice bo lb cb) ∧ w'.cell? ⟨wr.heap.size, 5, none⟩ = some (.slice qo lq cq) ∧ w'.cell? ⟨wr.heap.size, 6, none⟩ = some (.int .i64 N) ∧ w'.cell? ⟨r6, 0, none⟩ = some (.bool zn) ∧ w'.cell? ⟨r6, 1, none⟩ = some (.slice o6 l6 c6) ∧ w'.cell? ⟨r8, 0, none⟩ = some (.bool zn) ∧ w'.cell? ⟨r8, 1, none⟩ = some (.slice o8 l8 c8))) (by kernel_rfl) (by (try dsimp only); exact KSQ.out _ (Below.refl _ _).drew) (fun hHeld => ?_)
                    refine wpAnyH_take (i := 0) (oi := Oper.mk (some 99) _ _ _ _ _) (v := ?_) rfl (by kernel_rfl) (by kernel_rfl) (by kernel_rfl) (fun _ _ _ h => h) (Or.inl ⟨by rfl, ?_⟩) (by assumption) ?_
                    rotate_left
                    · (intro w hSw; (try dsimp only at hSw); go_simp <;> (try with_reducible rfl))
                    (try simp only [Act.put, List.setIfInBounds_toArray, List.set_cons_zero, List.set_cons_succ])
                    refine wpAnyH_take (i := 1) (oi := Oper.mk (some 100) _ _ _ _ _) (v := ?_) rfl (by kernel_rfl) (by kernel_rfl) (by kernel_rfl) (fun _ _ _ h => h) (Or.inl ⟨by rfl, ?_⟩) (by assumption) ?_
                    rotate_left
                    · (intro w hSw; (try dsimp only at hSw); go_simp <;> (try with_reducible rfl))
                    (try simp only [Act.put, List.setIfInBounds_toArray, List.set_cons_zero, List.set_cons_succ])
                    refine wpAnyH_take (i := 2) (oi := Oper.mk (some 101) _ _ _ _ _) (v := ?_) rfl (by kernel_rfl) (by kernel_rfl) (by kernel_rfl) (fun _ _ _ h => h) (Or.inl ⟨by rfl, ?_⟩) (by assumption) ?_
                    rotate_left
                    · (intro w hSw; (try dsimp only at hSw); go_simp <;> (try with_reducible rfl))
                    (try simp only [Act.put, List.setIfInBounds_toArray, List.set_cons_zero, List.set_cons_succ])
                    refine wpAnyH_ready (rs := [3]) (by kernel_rfl) (by simp) ?_
                    refine AllReadyH.cons (o := Oper.mk (some 102) _ _ _ _ _) rfl (fun K hK => ?_) AllReadyH.nil
                    go_simp
                    (go_at_call 19; refine (isWhole_any na ao po la ca lp cp va.den _ (HQ.out.1.den.later (Below.refl _ _).drew) bw HBW.out).mono ?_; rintro e f1 ⟨rfl, hb⟩; skip; have hbF1 : Below Q.heap.size Q f1 := bnext (Below.refl _ _).drew hb; clear hb)
                    (try go_wp2_with fail)
                    clear hHeld
                    refine hK.out _ _ (by (try dsimp only); first | exact KSQ.out _ (Below.refl _ _).drew | exact KSQ.out _ (by assumption)) (fun hHeld => ?_)
                    clear hK K
                    (try simp only [Act.put, List.setIfInBounds_toArray, List.set_cons_zero, List.set_cons_succ])
                    refine wpAnyH_take (i := 4) (oi := Oper.mk (some 103) _ _ _ _ _) (v := ?_) rfl (by kernel_rfl) (by kernel_rfl) (by kernel_rfl) (fun _ _ _ h => h) (Or.inl ⟨by rfl, ?_⟩) (by assumption) ?_
                    rotate_left
                    · (intro w hSw; (try dsimp only at hSw); go_simp <;> (try with_reducible rfl))
                    (try simp only [Act.put, List.setIfInBounds_toArray, List.set_cons_zero, List.set_cons_succ])
                    refine wpAnyH_take (i := 5) (oi := Oper.mk (some 104) _ _ _ _ _) (v := ?_) rfl (by kernel_rfl) (by kernel_rfl) (by kernel_rfl) (fun _ _ _ h => h) (Or.inl ⟨by rfl, ?_⟩) (by assumption) ?_
                    rotate_left
                    · (intro w hSw; (try dsimp only at hSw); go_simp <;> (try with_reducible rfl))
                    (try simp only [Act.put, List.setIfInBounds_toArray, List.set_cons_zero, List.set_cons_succ])
                    refine wpAnyH_take (i := 6) (oi := Oper.mk (some 105) _ _ _ _ _) (v := ?_) rfl (by kernel_rfl) (by kernel_rfl) (by kernel_rfl) (fun _ _ _ h => h) (Or.inl ⟨by rfl, ?_⟩) (by assumption) ?_
                    rotate_left
                    · (intro w hSw; (try dsimp only at hSw); go_simp <;> (try with_reducible rfl))
                    (try simp only [Act.put, List.setIfInBounds_toArray, List.set_cons_zero, List.set_cons_succ])
                    refine wpAnyH_take (i := 7) (oi := Oper.mk (some 106) _ _ _ _ _) (v := ?_) rfl (by kernel_rfl) (by kernel_rfl) (by kernel_rfl) (fun _ _ _ h => h) (Or.inl ⟨by rfl, ?_⟩) (by assumption) ?_
                    rotate_left
                    · (intro w hSw; (try dsimp only at hSw); go_simp <;> (try with_reducible rfl))
                    (try simp only [Act.put, List.setIfInBounds_toArray, List.set_cons_zero, List.set_cons_succ])
                    refine wpAnyH_ready (rs := [8]) (by kernel_rfl) (by simp) ?_
                    refine AllReadyH.cons (o := Oper.mk (some 107) _ _ _ _ _) rfl (fun K hK => ?_) AllReadyH.nil
                    go_simp
                    (go_at_call 11; refine (eqint_same zn o6 o8 l6 c6 l8 c8 zs _ (HQ.out.2.2.2.2.2.1.1.later hbF1) (HQ.out.2.2.2.2.2.1.2.later hbF1) (by omega)).mono ?_; rintro e f2 ⟨rfl, hb⟩; skip; have hbF2 : Below Q.heap.size Q f2 := bnext hbF1 hb; clear hb)
                    (try go_wp2_with fail)
                    clear hHeld
                    refine hK.out _ _ (by (try dsimp only); first | exact KSQ.out _ (Below.refl _ _).drew | exact KSQ.out _ (by assumption)) (fun hHeld => ?_)
                    clear hK K
                    (try simp only [Act.put, List.setIfInBounds_toArray, List.set_cons_zero, List.set_cons_succ])
                    refine wpAnyH_take (i := 9) (oi := Oper.mk (some 108) _ _ _ _ _) (v := ?_) rfl (by kernel_rfl) (by kernel_rfl) (by kernel_rfl) (fun _ _ _ h => h) (Or.inl ⟨by rfl, ?_⟩) (by assumption) ?_
                    rotate_left
                    · (intro w hSw; (try dsimp only at hSw); go_simp <;> (try with_reducible rfl))
                    (try simp only [Act.put, List.setIfInBounds_toArray, List.set_cons_zero, List.set_cons_succ])
                    refine wpAnyH_take (i := 10) (oi := Oper.mk (some 109) _ _ _ _ _) (v := ?_) rfl (by kernel_rfl) (by kernel_rfl) (by kernel_rfl) (fun _ _ _ h => h) (Or.inl ⟨by rfl, ?_⟩) (by assumption) ?_
                    rotate_left
                    · (intro w hSw; (try dsimp only at hSw); go_simp <;> (try with_reducible rfl))
                    (try simp only [Act.put, List.setIfInBounds_toArray, List.set_cons_zero, List.set_cons_succ])
                    refine wpAnyH_take (i := 11) (oi := Oper.mk (some 110) _ _ _ _ _) (v := ?_) rfl (by kernel_rfl) (by kernel_rfl) (by kernel_rfl) (fun _ _ _ h => h) (Or.inl ⟨by rfl, ?_⟩) (by assumption) ?_
                    rotate_left
                    · (intro w hSw; (try dsimp only at hSw); go_simp <;> (try with_reducible rfl))
                    (try simp only [Act.put, List.setIfInBounds_toArray, List.set_cons_zero, List.set_cons_succ])
                    refine wpAnyH_take (i := 12) (oi := Oper.mk (some 111) _ _ _ _ _) (v := ?_) rfl (by kernel_rfl) (by kernel_rfl) (by kernel_rfl) (fun _ _ _ h => h) (Or.inl ⟨by rfl, ?_⟩) (by assumption) ?_
                    rotate_left
                    · (intro w hSw; (try dsimp only at hSw); go_simp <;> (try with_reducible rfl))
                    (try simp only [Act.put, List.setIfInBounds_toArray, List.set_cons_zero, List.set_cons_succ])
                    refine wpAnyH_take (i := 13) (oi := Oper.mk (some 112) _ _ _ _ _) (v := ?_) rfl (by kernel_rfl) (by kernel_rfl) (by kernel_rfl) (fun _ _ _ h => h) (Or.inl ⟨by rfl, ?_⟩) (by assumption) ?_
                    rotate_left
                    · (intro w hSw; (try dsimp only at hSw); go_simp <;> (try with_reducible rfl))
                    (try simp only [Act.put, List.setIfInBounds_toArray, List.set_cons_zero, List.set_cons_succ])
                    refine wpAnyH_take (i := 15) (oi := Oper.mk (some 114) _ _ _ _ _) (v := ?_) rfl (by kernel_rfl) (by kernel_rfl) (by kernel_rfl) (fun _ _ _ h => h) (Or.inl ⟨by rfl, ?_⟩) (by assumption) ?_
                    rotate_left
                    · (intro w hSw; (try dsimp only at hSw); go_simp <;> (try with_reducible rfl))
                    (try simp only [Act.put, List.setIfInBounds_toArray, List.set_cons_zero, List.set_cons_succ])
                    refine wpAnyH_take (i := 16) (oi := Oper.mk (some 115) _ _ _ _ _) (v := ?_) rfl (by kernel_rfl) (by kernel_rfl) (by kernel_rfl) (fun _ _ _ h => h) (Or.inl ⟨by rfl, ?_⟩) (by assumption) ?_
                    rotate_left
                    · (intro w hSw; (try dsimp only at hSw); go_simp <;> (try with_reducible rfl))
                    (try simp only [Act.put, List.setIfInBounds_toArray, List.set_cons_zero, List.set_cons_succ])
                    refine wpAnyH_ready (rs := [14]) (by kernel_rfl) (by simp) ?_
                    refine AllReadyH.cons (o := Oper.mk (some 113) _ _ _ _ _) rfl (fun K hK => ?_) AllReadyH.nil
                    go_simp
                    (go_at_call 12; refine ((HD1.out _ hbF2)).mono ?_; rintro e f3 ⟨rfl, hb⟩; skip; have hbF3 : Below Q.heap.size Q f3 := bnext hbF2 hb; clear hb)
                    (try go_wp2_with fail)
                    clear hHeld
                    refine hK.out _ _ (by (try dsimp only); first | exact KSQ.out _ (Below.refl _ _).drew | exact KSQ.out _ (by assumption)) (fun hHeld => ?_)
                    clear hK K
                    (try simp only [Act.put, List.setIfInBounds_toArray, List.set_cons_zero, List.set_cons_succ])
                    refine wpAnyH_ready (rs := [17]) (by kernel_rfl) (by simp) ?_
                    refine AllReadyH.cons (o := Oper.mk (some 116) _ _ _ _ _) rfl (fun K hK => ?_) AllReadyH.nil
                    go_simp
                    (go_at_call 20; refine (qdyadic_any na ao po la ca lp cp va _ (HQ.out.1.later hbF3) (by omega) dy HDY.out).mono ?_; rintro e f4 ⟨rfl, hb⟩; skip; have hbF4 : Below Q.heap.size Q f4 := bnext hbF3 hb; clear hb)
                    (try go_wp2_with fail)
                    clear hHeld
                    refine hK.out _ _ (by (try dsimp only); first | exact KSQ.out _ (Below.refl _ _).drew | exact KSQ.out _ (by assumption)) (fun hHeld => ?_)
                    clear hK K
                    (try simp only [Act.put, List.setIfInBounds_toArray, List.set_cons_zero, List.set_cons_succ])
                    refine wpAnyH_take (i := 18) (oi := Oper.mk (some 117) _ _ _ _ _) (v := ?_) rfl (by kernel_rfl) (by kernel_rfl) (by kernel_rfl) (fun _ _ _ h => h) (Or.inl ⟨by rfl, ?_⟩) (by assumption) ?_
                    rotate_left
                    · (intro w hSw; (try dsimp only at hSw); go_simp <;> (try with_reducible rfl))
                    (try simp only [Act.put, List.setIfInBounds_toArray, List.set_cons_zero, List.set_cons_succ])
                    refine wpAnyH_take (i := 19) (oi := Oper.mk (some 118) _ _ _ _ _) (v := ?_) rfl (by kernel_rfl) (by kernel_rfl) (by kernel_rfl) (fun _ _ _ h => h) (Or.inl ⟨by rfl, ?_⟩) (by assumption) ?_
                    rotate_left
                    · (intro w hSw; (try dsimp only at hSw); go_simp <;> (try with_reducible rfl))
                    (try simp only [Act.put, List.setIfInBounds_toArray, List.set_cons_zero, List.set_cons_succ])
                    refine wpAnyH_take (i := 20) (oi := Oper.mk (some 119) _ _ _ _ _) (v := ?_) rfl (by kernel_rfl) (by kernel_rfl) (by kernel_rfl) (fun _ _ _ h => h) (Or.inl ⟨by rfl, ?_⟩) (by assumption) ?_
                    rotate_left
                    · (intro w hSw; (try dsimp only at hSw); go_simp <;> (try with_reducible rfl))
                    (try simp only [Act.put, List.setIfInBounds_toArray, List.set_cons_zero, List.set_cons_succ])
                    refine wpAnyH_take (i := 21) (oi := Oper.mk (some 120) _ _ _ _ _) (v := ?_) rfl (by kernel_rfl) (by kernel_rfl) (by kernel_rfl) (fun _ _ _ h => h) (Or.inl ⟨by rfl, ?_⟩) (by assumption) ?_
                    rotate_left
                    · (intro w hSw; (try dsimp only at hSw); go_simp <;> (try with_reducible rfl))
                    (try simp only [Act.put, List.setIfInBounds_toArray, List.set_cons_zero, List.set_cons_succ])
                    refine wpAnyH_take (i := 22) (oi := Oper.mk (some 121) _ _ _ _ _) (v := ?_) rfl (by kernel_rfl) (by kernel_rfl) (by kernel_rfl) (fun _ _ _ h => h) (Or.inl ⟨by rfl, ?_⟩) (by assumption) ?_
                    rotate_left
                    · (intro w hSw; (try dsimp only at hSw); go_simp <;> (try with_reducible rfl))
                    (try simp only [Act.put, List.setIfInBounds_toArray, List.set_cons_zero, List.set_cons_succ])
                    refine wpAnyH_take (i := 24) (oi := Oper.mk (some 123) _ _ _ _ _) (v := ?_) rfl (by kernel_rfl) (by kernel_rfl) (by kernel_rfl) (fun _ _ _ h => h) (Or.inl ⟨by rfl, ?_⟩) (by assumption) ?_
                    rotate_left
                    · (intro w hSw; (try dsimp only at hSw); go_simp <;> (try with_reducible rfl))
                    (try simp only [Act.put, List.setIfInBounds_toArray, List.set_cons_zero, List.set_cons_succ])
                    refine wpAnyH_take (i := 25) (oi := Oper.mk (some 124) _ _ _ _ _) (v := ?_) rfl (by kernel_rfl) (by kernel_rfl) (by kernel_rfl) (fun _ _ _ h => h) (Or.inl ⟨by rfl, ?_⟩) (by assumption) ?_
                    rotate_left
                    · (intro w hSw; (try dsimp only at hSw); go_simp <;> (try with_reducible rfl))
                    (try simp only [Act.put, List.setIfInBounds_toArray, List.set_cons_zero, List.set_cons_succ])
                    refine wpAnyH_ready (rs := [23]) (by kernel_rfl) (by simp) ?_
                    refine AllReadyH.cons (o := Oper.mk (some 122) _ _ _ _ _) rfl (fun K hK => ?_) AllReadyH.nil
                    go_simp
                    (go_at_call 13; refine (sign_rat na ao po la ca lp cp va _ (HQ.out.1.later hbF4) (by omega) (by omega) (tab_later HQ.out.2.1 hbF4) sg HSG.out).mono ?_; rintro e f5 ⟨rfl, hb⟩; skip; have hbF5 : Below Q.heap.size Q f5 := bnext hbF4 hb; clear hb)
                    (try go_wp2_with fail)
                    clear hHeld
                    refine hK.out _ _ (by (try dsimp only); first | exact KSQ.out _ (Below.refl _ _).drew | exact KSQ.out _ (by assumption)) (fun hHeld => ?_)
                    clear hK K
                    (try simp only [Act.put, List.setIfInBounds_toArray, List.set_cons_zero, List.set_cons_succ])
                    refine wpAnyH_ready (rs := [26]) (by kernel_rfl) (by simp) ?_
                    refine AllReadyH.cons (o := Oper.mk (some 125) _ _ _ _ _) rfl (fun K hK => ?_) AllReadyH.nil
                    go_simp
                    (go_at_call 21; refine (qsign_any na ao po la ca lp cp va _ (HQ.out.1.later hbF5) (by omega) sg HSG.out).mono ?_; rintro e f6 ⟨rfl, hb⟩; skip; have hbF6 : Below Q.heap.size Q f6 := bnext hbF5 hb; clear hb)
                    (try go_wp2_with fail)
                    clear hHeld
                    refine hK.out _ _ (by (try dsimp only); first | exact KSQ.out _ (Below.refl _ _).drew | exact KSQ.out _ (by assumption)) (fun hHeld => ?_)
                    clear hK K
                    (try simp only [Act.put, List.setIfInBounds_toArray, List.set_cons_zero, List.set_cons_succ])
                    refine wpAnyH_take (i := 27) (oi := Oper.mk (some 126) _ _ _ _ _) (v := ?_) rfl (by kernel_rfl) (by kernel_rfl) (by kernel_rfl) (fun _ _ _ h => h) (Or.inl ⟨by rfl, ?_⟩) (by assumption) ?_
                    rotate_left
                    · (intro w hSw; (try dsimp only at hSw); go_simp <;> (try with_reducible rfl))
                    (try simp only [Act.put, List.setIfInBounds_toArray, List.set_cons_zero, List.set_cons_succ])
                    refine wpAnyH_take (i := 28) (oi := Oper.mk (some 127) _ _ _ _ _) (v := ?_) rfl (by kernel_rfl) (by kernel_rfl) (by kernel_rfl) (fun _ _ _ h => h) (Or.inl ⟨by rfl, ?_⟩) (by assumption) ?_
                    rotate_left
                    · (intro w hSw; (try dsimp only at hSw); go_simp <;> (try with_reducible rfl))
                    (try simp only [Act.put, List.setIfInBounds_toArray, List.set_cons_zero, List.set_cons_succ])
                    refine wpAnyH_take (i := 29) (oi := Oper.mk (some 128) _ _ _ _ _) (v := ?_) rfl (by kernel_rfl) (by kernel_rfl) (by kernel_rfl) (fun _ _ _ h => h) (Or.inl ⟨by rfl, ?_⟩) (by assumption) ?_
                    rotate_left
                    · (intro w hSw; (try dsimp only at hSw); go_simp <;> (try with_reducible rfl))
                    (try simp only [Act.put, List.setIfInBounds_toArray, List.set_cons_zero, List.set_cons_succ])
                    refine wpAnyH_take (i := 30) (oi := Oper.mk (some 129) _ _ _ _ _) (v := ?_) rfl (by kernel_rfl) (by kernel_rfl) (by kernel_rfl) (fun _ _ _ h => h) (Or.inl ⟨by rfl, ?_⟩) (by assumption) ?_
                    rotate_left
                    · (intro w hSw; (try dsimp only at hSw); go_simp <;> (try with_reducible rfl))
                    (try simp only [Act.put, List.setIfInBounds_toArray, List.set_cons_zero, List.set_cons_succ])
                    refine wpAnyH_take (i := 31) (oi := Oper.mk (some 130) _ _ _ _ _) (v := ?_) rfl (by kernel_rfl) (by kernel_rfl) (by kernel_rfl) (fun _ _ _ h => h) (Or.inl ⟨by rfl, ?_⟩) (by assumption) ?_
                    rotate_left
                    · (intro w hSw; (try dsimp only at hSw); go_simp <;> (try with_reducible rfl))
                    (try simp only [Act.put, List.setIfInBounds_toArray, List.set_cons_zero, List.set_cons_succ])
                    refine wpAnyH_take (i := 33) (oi := Oper.mk (some 132) _ _ _ _ _) (v := ?_) rfl (by kernel_rfl) (by kernel_rfl) (by kernel_rfl) (fun _ _ _ h => h) (Or.inl ⟨by rfl, ?_⟩) (by assumption) ?_
                    rotate_left
                    · (intro w hSw; (try dsimp only at hSw); go_simp <;> (try with_reducible rfl))
                    (try simp only [Act.put, List.setIfInBounds_toArray, List.set_cons_zero, List.set_cons_succ])
                    refine wpAnyH_take (i := 34) (oi := Oper.mk (some 133) _ _ _ _ _) (v := ?_) rfl (by kernel_rfl) (by kernel_rfl) (by kernel_rfl) (fun _ _ _ h => h) (Or.inl ⟨by rfl, ?_⟩) (by assumption) ?_
                    rotate_left
                    · (intro w hSw; (try dsimp only at hSw); go_simp <;> (try with_reducible rfl))
                    (try simp only [Act.put, List.setIfInBounds_toArray, List.set_cons_zero, List.set_cons_succ])
                    refine wpAnyH_ready (rs := [32]) (by kernel_rfl) (by simp) ?_
                    refine AllReadyH.cons (o := Oper.mk (some 131) _ _ _ _ _) rfl (fun K hK => ?_) AllReadyH.nil
                    go_simp
                    (go_at_call 15; refine (rneg2_any na ao po la ca lp cp va _ (HQ.out.1.later hbF6) (by omega) (by omega) (tab_later HQ.out.2.1 hbF6)).mono ?_; rintro e f7 ⟨n7, o7, l7, c7, p7, m7, k7, rfl, hs, ho, hp, _, hb⟩; have H7 : Hid (RatAt f7 n7 o7 l7 c7 p7 m7 k7 (-va)) := ⟨ho.int hs, hp.row⟩; clear hs ho hp; have hbF7 : Below Q.heap.size Q f7 := bnext hbF6 hb; clear hb)
                    (try go_wp2_with fail)
                    clear hHeld
                    refine hK.out _ _ (by (try dsimp only); first | exact KSQ.out _ (Below.refl _ _).drew | exact KSQ.out _ (by assumption)) (fun hHeld => ?_)
                    clear hK K
                    (try simp only [Act.put, List.setIfInBounds_toArray, List.set_cons_zero, List.set_cons_succ])
                    refine wpAnyH_ready (rs := [35]) (by kernel_rfl) (by simp) ?_
                    refine AllReadyH.cons (o := Oper.mk (some 134) _ _ _ _ _) rfl (fun K hK => ?_) AllReadyH.nil
                    go_simp
                    (go_at_call 22; refine (qneg_any na ao po la ca lp cp va _ (HQ.out.1.later hbF7) (by omega)).mono ?_; rintro e f8 ⟨n8, o8, l8, c8, p8, m8, k8, rfl, hr, hb⟩; have H8 : Hid (RatAt f8 n8 o8 l8 c8 p8 m8 k8 (-va) ∧ RatAt f8 n7 o7 l7 c7 p7 m7 k7 (-va)) := ⟨hr, H7.out.later hb⟩; clear hr; have hbF8 : Below Q.heap.size Q f8 := bnext hbF7 hb; clear hb)
                    (try go_wp2_with fail)
                    clear hHeld
                    refine hK.out _ _ (by (try dsimp only); first | exact KSQ.out _ (Below.refl _ _).drew | exact KSQ.out _ (by assumption)) (fun hHeld => ?_)
                    clear hK K
                    (try simp only [Act.put, List.setIfInBounds_toArray, List.set_cons_zero, List.set_cons_succ])
                    refine wpAnyH_ready (rs := [36]) (by kernel_rfl) (by simp) ?_
                    refine AllReadyH.cons (o := Oper.mk (some 135) _ _ _ _ _) rfl (fun K hK => ?_) AllReadyH.nil
                    go_simp
                    (go_at_call 14; refine (eqrat_same n7 n8 o7 p7 o8 p8 l7 c7 m7 k7 l8 c8 m8 k8 (-va) _ H8.out.2 H8.out.1 (by have := (H8.out.2.len HSz.out.neg).1; omega) (by have := (H8.out.2.len HSz.out.neg).2; omega)).mono ?_; rintro e f9 ⟨rfl, hb⟩; skip; have hbF9 : Below Q.heap.size Q f9 := bnext hbF8 hb; clear hb)
                    (try go_wp2_with fail)
                    clear hHeld
                    refine hK.out _ _ (by (try dsimp only); first | exact KSQ.out _ (Below.refl _ _).drew | exact KSQ.out _ (by assumption)) (fun hHeld => ?_)
                    clear hK K
                    (try simp only [Act.put, List.setIfInBounds_toArray, List.set_cons_zero, List.set_cons_succ])
                    refine wpAnyH_take (i := 37) (oi := Oper.mk (some 136) _ _ _ _ _) (v := ?_) rfl (by kernel_rfl) (by kernel_rfl) (by kernel_rfl) (fun _ _ _ h => h) (Or.inl ⟨by rfl, ?_⟩) (by assumption) ?_
                    rotate_left
                    · (intro w hSw; (try dsimp only at hSw); go_simp <;> (try with_reducible rfl))
                    (try simp only [Act.put, List.setIfInBounds_toArray, List.set_cons_zero, List.set_cons_succ])
                    refine wpAnyH_take (i := 38) (oi := Oper.mk (some 137) _ _ _ _ _) (v := ?_) rfl (by kernel_rfl) (by kernel_rfl) (by kernel_rfl) (fun _ _ _ h => h) (Or.inl ⟨by rfl, ?_⟩) (by assumption) ?_
                    rotate_left
                    · (intro w hSw; (try dsimp only at hSw); go_simp <;> (try with_reducible rfl))
                    (try simp only [Act.put, List.setIfInBounds_toArray, List.set_cons_zero, List.set_cons_succ])
                    refine wpAnyH_take (i := 39) (oi := Oper.mk (some 138) _ _ _ _ _) (v := ?_) rfl (by kernel_rfl) (by kernel_rfl) (by kernel_rfl) (fun _ _ _ h => h) (Or.inl ⟨by rfl, ?_⟩) (by assumption) ?_
                    rotate_left
                    · (intro w hSw; (try dsimp only at hSw); go_simp <;> (try with_reducible rfl))
                    (try simp only [Act.put, List.setIfInBounds_toArray, List.set_cons_zero, List.set_cons_succ])
                    refine wpAnyH_take (i := 40) (oi := Oper.mk (some 139) _ _ _ _ _) (v := ?_) rfl (by kernel_rfl) (by kernel_rfl) (by kernel_rfl) (fun _ _ _ h => h) (Or.inl ⟨by rfl, ?_⟩) (by assumption) ?_
                    rotate_left
                    · (intro w hSw; (try dsimp only at hSw); go_simp <;> (try with_reducible rfl))
                    (try simp only [Act.put, List.setIfInBounds_toArray, List.set_cons_zero, List.set_cons_succ])
                    refine wpAnyH_take (i := 41) (oi := Oper.mk (some 140) _ _ _ _ _) (v := ?_) rfl (by kernel_rfl) (by kernel_rfl) (by kernel_rfl) (fun _ _ _ h => h) (Or.inl ⟨by rfl, ?_⟩) (by assumption) ?_
                    rotate_left
                    · (intro w hSw; (try dsimp only at hSw); go_simp <;> (try with_reducible rfl))
                    (try simp only [Act.put, List.setIfInBounds_toArray, List.set_cons_zero, List.set_cons_succ])
                    refine wpAnyH_take (i := 43) (oi := Oper.mk (some 142) _ _ _ _ _) (v := ?_) rfl (by kernel_rfl) (by kernel_rfl) (by kernel_rfl) (fun _ _ _ h => h) (Or.inl ⟨by rfl, ?_⟩) (by assumption) ?_
                    rotate_left
                    · (intro w hSw; (try dsimp only at hSw); go_simp <;> (try with_reducible rfl))
                    (try simp only [Act.put, List.setIfInBounds_toArray, List.set_cons_zero, List.set_cons_succ])
                    refine wpAnyH_take (i := 44) (oi := Oper.mk (some 143) _ _ _ _ _) (v := ?_) rfl (by kernel_rfl) (by kernel_rfl) (by kernel_rfl) (fun _ _ _ h => h) (Or.inl ⟨by rfl, ?_⟩) (by assumption) ?_
                    rotate_left
                    · (intro w hSw; (try dsimp only at hSw); go_simp <;> (try with_reducible rfl))
                    (try simp only [Act.put, List.setIfInBounds_toArray, List.set_cons_zero, List.set_cons_succ])
                    refine wpAnyH_ready (rs := [42]) (by kernel_rfl) (by simp) ?_
                    refine AllReadyH.cons (o := Oper.mk (some 141) _ _ _ _ _) rfl (fun K hK => ?_) AllReadyH.nil
                    go_simp
                    (go_at_call 16; refine (rabs2_any na ao po la ca lp cp va _ (HQ.out.1.later hbF9) (by omega) (by omega) (tab_later HQ.out.2.1 hbF9)).mono ?_; rintro e f10 ⟨n10, o10, l10, c10, p10, m10, k10, rfl, hr, hb⟩; have H10 : Hid (RatAt f10 n10 o10 l10 c10 p10 m10 k10 (absR va)) := hr; clear hr; have hbF10 : Below Q.heap.size Q f10 := bnext hbF9 hb; clear hb)
                    (try go_wp2_with fail)
                    clear hHeld
                    refine hK.out _ _ (by (try dsimp only); first | exact KSQ.out _ (Below.refl _ _).drew | exact KSQ.out _ (by assumption)) (fun hHeld => ?_)
                    clear hK K
                    (try simp only [Act.put, List.setIfInBounds_toArray, List.set_cons_zero, List.set_cons_succ])
                    refine wpAnyH_ready (rs := [45]) (by kernel_rfl) (by simp) ?_
                    refine AllReadyH.cons (o := Oper.mk (some 144) _ _ _ _ _) rfl (fun K hK => ?_) AllReadyH.nil
                    go_simp
                    (go_at_call 23; refine (qabs_any na ao po la ca lp cp va _ (HQ.out.1.later hbF10) (by omega)).mono ?_; rintro e f11 ⟨n11, o11, l11, c11, p11, m11, k11, rfl, hr, hb⟩; have H11 : Hid (RatAt f11 n11 o11 l11 c11 p11 m11 k11 (absR va) ∧ RatAt f11 n10 o10 l10 c10 p10 m10 k10 (absR va)) := ⟨hr, H10.out.later hb⟩; clear hr; have hbF11 : Below Q.heap.size Q f11 := bnext hbF10 hb; clear hb)
                    (try go_wp2_with fail)
                    clear hHeld
                    refine hK.out _ _ (by (try dsimp only); first | exact KSQ.out _ (Below.refl _ _).drew | exact KSQ.out _ (by assumption)) (fun hHeld => ?_)
                    clear hK K
                    (try simp only [Act.put, List.setIfInBounds_toArray, List.set_cons_zero, List.set_cons_succ])
                    refine wpAnyH_ready (rs := [46]) (by kernel_rfl) (by simp) ?_
                    refine AllReadyH.cons (o := Oper.mk (some 145) _ _ _ _ _) rfl (fun K hK => ?_) AllReadyH.nil
                    go_simp
                    (go_at_call 14; refine (eqrat_same n10 n11 o10 p10 o11 p11 l10 c10 m10 k10 l11 c11 m11 k11 (absR va) _ H11.out.2 H11.out.1 (by have := (H11.out.2.len (sz_abs HSz.out)).1; omega) (by have := (H11.out.2.len (sz_abs HSz.out)).2; omega)).mono ?_; rintro e f12 ⟨rfl, hb⟩; skip; have hbF12 : Below Q.heap.size Q f12 := bnext hbF11 hb; clear hb)
                    (try go_wp2_with fail)
                    clear hHeld
                    refine hK.out _ _ (by (try dsimp only); first | exact KSQ.out _ (Below.refl _ _).drew | exact KSQ.out _ (by assumption)) (fun hHeld => ?_)
                    clear hK K
                    (try simp only [Act.put, List.setIfInBounds_toArray, List.set_cons_zero, List.set_cons_succ])
                    refine wpAnyH_take (i := 47) (oi := Oper.mk (some 146) _ _ _ _ _) (v := ?_) rfl (by kernel_rfl) (by kernel_rfl) (by kernel_rfl) (fun _ _ _ h => h) (Or.inl ⟨by rfl, ?_⟩) (by assumption) ?_
                    rotate_left
                    · (intro w hSw; (try dsimp only at hSw); go_simp <;> (try with_reducible rfl))
                    (try simp only [Act.put, List.setIfInBounds_toArray, List.set_cons_zero, List.set_cons_succ])
                    refine wpAnyH_take (i := 48) (oi := Oper.mk (some 147) _ _ _ _ _) (v := ?_) rfl (by kernel_rfl) (by kernel_rfl) (by kernel_rfl) (fun _ _ _ h => h) (Or.inl ⟨by rfl, ?_⟩) (by assumption) ?_
                    rotate_left
                    · (intro w hSw; (try dsimp only at hSw); go_simp <;> (try with_reducible rfl))
                    (try simp only [Act.put, List.setIfInBounds_toArray, List.set_cons_zero, List.set_cons_succ])
                    refine wpAnyH_take (i := 49) (oi := Oper.mk (some 148) _ _ _ _ _) (v := ?_) rfl (by kernel_rfl) (by kernel_rfl) (by kernel_rfl) (fun _ _ _ h => h) (Or.inl ⟨by rfl, ?_⟩) (by assumption) ?_
                    rotate_left
                    · (intro w hSw; (try dsimp only at hSw); go_simp <;> (try with_reducible rfl))
                    (try simp only [Act.put, List.setIfInBounds_toArray, List.set_cons_zero, List.set_cons_succ])
                    refine wpAnyH_take (i := 50) (oi := Oper.mk (some 149) _ _ _ _ _) (v := ?_) rfl (by kernel_rfl) (by kernel_rfl) (by kernel_rfl) (fun _ _ _ h => h) (Or.inl ⟨by rfl, ?_⟩) (by assumption) ?_
                    rotate_left
                    · (intro w hSw; (try dsimp only at hSw); go_simp <;> (try with_reducible rfl))
                    (try simp only [Act.put, List.setIfInBounds_toArray, List.set_cons_zero, List.set_cons_succ])
                    refine wpAnyH_take (i := 51) (oi := Oper.mk (some 150) _ _ _ _ _) (v := ?_) rfl (by kernel_rfl) (by kernel_rfl) (by kernel_rfl) (fun _ _ _ h => h) (Or.inl ⟨by rfl, ?_⟩) (by assumption) ?_
                    rotate_left
                    · (intro w hSw; (try dsimp only at hSw); go_simp <;> (try with_reducible rfl))
                    (try simp only [Act.put, List.setIfInBounds_toArray, List.set_cons_zero, List.set_cons_succ])
                    refine wpAnyH_take (i := 53) (oi := Oper.mk (some 152) _ _ _ _ _) (v := ?_) rfl (by kernel_rfl) (by kernel_rfl) (by kernel_rfl) (fun _ _ _ h => h) (Or.inl ⟨by rfl, ?_⟩) (by assumption) ?_
                    rotate_left
                    · (intro w hSw; (try dsimp only at hSw); go_simp <;> (try with_reducible rfl))
                    (try simp only [Act.put, List.setIfInBounds_toArray, List.set_cons_zero, List.set_cons_succ])
                    refine wpAnyH_take (i := 54) (oi := Oper.mk (some 153) _ _ _ _ _) (v := ?_) rfl (by kernel_rfl) (by kernel_rfl) (by kernel_rfl) (fun _ _ _ h => h) (Or.inl ⟨by rfl, ?_⟩) (by assumption) ?_
                    rotate_left
                    · (intro w hSw; (try dsimp only at hSw); go_simp <;> (try with_reducible rfl))
                    (try simp only [Act.put, List.setIfInBounds_toArray, List.set_cons_zero, List.set_cons_succ])
                    refine wpAnyH_ready (rs := [52]) (by kernel_rfl) (by simp) ?_
                    refine AllReadyH.cons (o := Oper.mk (some 151) _ _ _ _ _) rfl (fun K hK => ?_) AllReadyH.nil
                    go_simp
                    (go_at_call 17; refine (rfloor_any na ao po la ca lp cp va _ (HQ.out.1.later hbF12) (by omega) (by omega) (tab_later HQ.out.2.1 hbF12)).mono ?_; rintro e f13 ⟨n13, o13, l13, c13, rfl, hs, ho, hb⟩; rw [HVQ.out.1] at hs ho; have H13 : Hid (IntAt f13 n13 o13 l13 c13 vq) := ho.int hs; clear hs ho; have hbF13 : Below Q.heap.size Q f13 := bnext hbF12 hb; clear hb)
                    (try go_wp2_with fail)
                    clear hHeld
                    refine hK.out _ _ (by (try dsimp only); first | exact KSQ.out _ (Below.refl _ _).drew | exact KSQ.out _ (by assumption)) (fun hHeld => ?_)
                    clear hK K
                    (try simp only [Act.put, List.setIfInBounds_toArray, List.set_cons_zero, List.set_cons_succ])
                    refine wpAnyH_ready (rs := [55]) (by kernel_rfl) (by simp) ?_
                    refine AllReadyH.cons (o := Oper.mk (some 154) _ _ _ _ _) rfl (fun K hK => ?_) AllReadyH.nil
                    go_simp
                    (go_at_call 24; refine (qfloor_any na ao po la ca lp cp va _ (HQ.out.1.later hbF13) (by omega) (by omega)).mono ?_; rintro e f14 ⟨n14, o14, l14, c14, rfl, hi, hb⟩; rw [HVQ.out.1] at hi; have H14 : Hid (IntAt f14 n14 o14 l14 c14 vq ∧ IntAt f14 n13 o13 l13 c13 vq) := ⟨hi, H13.out.later hb⟩; clear hi; have hbF14 : Below Q.heap.size Q f14 := bnext hbF13 hb; clear hb)
                    (try go_wp2_with fail)
                    clear hHeld
                    refine hK.out _ _ (by (try dsimp only); first | exact KSQ.out _ (Below.refl _ _).drew | exact KSQ.out _ (by assumption)) (fun hHeld => ?_)
                    clear hK K
                    (try simp only [Act.put, List.setIfInBounds_toArray, List.set_cons_zero, List.set_cons_succ])
                    refine wpAnyH_ready (rs := [56]) (by kernel_rfl) (by simp) ?_
                    refine AllReadyH.cons (o := Oper.mk (some 155) _ _ _ _ _) rfl (fun K hK => ?_) AllReadyH.nil
                    go_simp
                    (go_at_call 11; refine (eqint_at n13 n14 o13 o14 l13 c13 l14 c14 vq vq _ H14.out.2 H14.out.1 (by rw [H14.out.2.row.hlen]; have := HVQ.out.2; omega) true (decide_eq_true rfl)).mono ?_; rintro e f15 ⟨rfl, hb⟩; skip; have hbF15 : Below Q.heap.size Q f15 := bnext hbF14 hb; clear hb)
                    (try go_wp2_with fail)
                    clear hHeld
                    refine hK.out _ _ (by (try dsimp only); first | exact KSQ.out _ (Below.refl _ _).drew | exact KSQ.out _ (by assumption)) (fun hHeld => ?_)
                    clear hK K
                    (try simp only [Act.put, List.setIfInBounds_toArray, List.set_cons_zero, List.set_cons_succ])
                    refine wpAnyH_take (i := 57) (oi := Oper.mk (some 156) _ _ _ _ _) (v := ?_) rfl (by kernel_rfl) (by kernel_rfl) (by kernel_rfl) (fun _ _ _ h => h) (Or.inl ⟨by rfl, ?_⟩) (by assumption) ?_
                    rotate_left
                    · (intro w hSw; (try dsimp only at hSw); go_simp <;> (try with_reducible rfl))
                    (try simp only [Act.put, List.setIfInBounds_toArray, List.set_cons_zero, List.set_cons_succ])
                    refine wpAnyH_take (i := 58) (oi := Oper.mk (some 157) _ _ _ _ _) (v := ?_) rfl (by kernel_rfl) (by kernel_rfl) (by kernel_rfl) (fun _ _ _ h => h) (Or.inl ⟨by rfl, ?_⟩) (by assumption) ?_
                    rotate_left
                    · (intro w hSw; (try dsimp only at hSw); go_simp <;> (try with_reducible rfl))
                    (try simp only [Act.put, List.setIfInBounds_toArray, List.set_cons_zero, List.set_cons_succ])
                    refine wpAnyH_take (i := 59) (oi := Oper.mk (some 158) _ _ _ _ _) (v := ?_) rfl (by kernel_rfl) (by kernel_rfl) (by kernel_rfl) (fun _ _ _ h => h) (Or.inl ⟨by rfl, ?_⟩) (by assumption) ?_
                    rotate_left
                    · (intro w hSw; (try dsimp only at hSw); go_simp <;> (try with_reducible rfl))
                    (try simp only [Act.put, List.setIfInBounds_toArray, List.set_cons_zero, List.set_cons_succ])
                    refine wpAnyH_take (i := 60) (oi := Oper.mk (some 159) _ _ _ _ _) (v := ?_) rfl (by kernel_rfl) (by kernel_rfl) (by kernel_rfl) (fun _ _ _ h => h) (Or.inl ⟨by rfl, ?_⟩) (by assumption) ?_
                    rotate_left
                    · (intro w hSw; (try dsimp only at hSw); go_simp <;> (try with_reducible rfl))
                    (try simp only [Act.put, List.setIfInBounds_toArray, List.set_cons_zero, List.set_cons_succ])
                    refine wpAnyH_take (i := 61) (oi := Oper.mk (some 160) _ _ _ _ _) (v := ?_) rfl (by kernel_rfl) (by kernel_rfl) (by kernel_rfl) (fun _ _ _ h => h) (Or.inl ⟨by rfl, ?_⟩) (by assumption) ?_
                    rotate_left
                    · (intro w hSw; (try dsimp only at hSw); go_simp <;> (try with_reducible rfl))
                    (try simp only [Act.put, List.setIfInBounds_toArray, List.set_cons_zero, List.set_cons_succ])
                    refine wpAnyH_take (i := 62) (oi := Oper.mk (some 161) _ _ _ _ _) (v := ?_) rfl (by kernel_rfl) (by kernel_rfl) (by kernel_rfl) (fun _ _ _ h => h) (Or.inl ⟨by rfl, ?_⟩) (by assumption) ?_
                    rotate_left
                    · (intro w hSw; (try dsimp only at hSw); go_simp <;> (try with_reducible rfl))
                    (try simp only [Act.put, List.setIfInBounds_toArray, List.set_cons_zero, List.set_cons_succ])
                    refine wpAnyH_take (i := 64) (oi := Oper.mk (some 163) _ _ _ _ _) (v := ?_) rfl (by kernel_rfl) (by kernel_rfl) (by kernel_rfl) (fun _ _ _ h => h) (Or.inl ⟨by rfl, ?_⟩) (by assumption) ?_
                    rotate_left
                    · (intro w hSw; (try dsimp only at hSw); go_simp <;> (try with_reducible rfl))
                    (try simp only [Act.put, List.setIfInBounds_toArray, List.set_cons_zero, List.set_cons_succ])
                    refine wpAnyH_take (i := 65) (oi := Oper.mk (some 164) _ _ _ _ _) (v := ?_) rfl (by kernel_rfl) (by kernel_rfl) (by kernel_rfl) (fun _ _ _ h => h) (Or.inl ⟨by rfl, ?_⟩) (by assumption) ?_
                    rotate_left
                    · (intro w hSw; (try dsimp only at hSw); go_simp <;> (try with_reducible rfl))
                    (try simp only [Act.put, List.setIfInBounds_toArray, List.set_cons_zero, List.set_cons_succ])
                    refine wpAnyH_take (i := 66) (oi := Oper.mk (some 165) _ _ _ _ _) (v := ?_) rfl (by kernel_rfl) (by kernel_rfl) (by kernel_rfl) (fun _ _ _ h => h) (Or.inl ⟨by rfl, ?_⟩) (by assumption) ?_
                    rotate_left
                    · (intro w hSw; (try dsimp only at hSw); go_simp <;> (try with_reducible rfl))
                    (try simp only [Act.put, List.setIfInBounds_toArray, List.set_cons_zero, List.set_cons_succ])
                    refine wpAnyH_ready (rs := [63]) (by kernel_rfl) (by simp) ?_
                    refine AllReadyH.cons (o := Oper.mk (some 162) _ _ _ _ _) rfl (fun K hK => ?_) AllReadyH.nil
                    go_simp
                    (go_at_call 25; refine (rfrom2_any na ao la ca va.num _ (HQ.out.1.num.later hbF15) (by omega)).mono ?_; rintro e f16 ⟨n16, o16, l16, c16, p16, m16, k16, rfl, hs, ho, hp, _, hb⟩; have H16 : Hid (RatAt f16 n16 o16 l16 c16 p16 m16 k16 ((va.num : Rat))) := ⟨ho.int hs, hp.row⟩; clear hs ho hp; have hbF16 : Below Q.heap.size Q f16 := bnext hbF15 hb; clear hb)
                    (try go_wp2_with fail)
                    clear hHeld
                    refine hK.out _ _ (by (try dsimp only); first | exact KSQ.out _ (Below.refl _ _).drew | exact KSQ.out _ (by assumption)) (fun hHeld => ?_)
                    clear hK K
                    (try simp only [Act.put, List.setIfInBounds_toArray, List.set_cons_zero, List.set_cons_succ])
                    refine wpAnyH_ready (rs := [67]) (by kernel_rfl) (by simp) ?_
                    refine AllReadyH.cons (o := Oper.mk (some 166) _ _ _ _ _) rfl (fun K hK => ?_) AllReadyH.nil
                    go_simp
                    (go_at_call 26; refine (qfrom_any na ao la ca (mag va.num.natAbs) _ (HQ.out.1.num.row.later hbF16)).mono ?_; rintro e f17 ⟨p17, m17, k17, rfl, hr, ho, hb⟩; have H17 : Hid (RatAt f17 na ao la ca p17 m17 k17 (va.num : Rat) ∧ RatAt f17 n16 o16 l16 c16 p16 m16 k16 (va.num : Rat)) := ⟨⟨⟨HVX.out, hr⟩, ho.row⟩, H16.out.later hb⟩; clear hr ho; have hbF17 : Below Q.heap.size Q f17 := bnext hbF16 hb; clear hb)
                    (try go_wp2_with fail)
                    clear hHeld
                    refine hK.out _ _ (by (try dsimp only); first | exact KSQ.out _ (Below.refl _ _).drew | exact KSQ.out _ (by assumption)) (fun hHeld => ?_)
                    clear hK K
                    (try simp only [Act.put, List.setIfInBounds_toArray, List.set_cons_zero, List.set_cons_succ])
                    refine wpAnyH_ready (rs := [68]) (by kernel_rfl) (by simp) ?_
                    refine AllReadyH.cons (o := Oper.mk (some 167) _ _ _ _ _) rfl (fun K hK => ?_) AllReadyH.nil
                    go_simp
                    (go_at_call 14; refine (eqrat_same n16 na o16 p16 ao p17 l16 c16 m16 k16 la ca m17 k17 (va.num : Rat) _ H17.out.2 H17.out.1 (by have := (H17.out.2.len (int_sz2 HSz.out)).1; omega) (by have := (H17.out.2.len (int_sz2 HSz.out)).2; omega)).mono ?_; rintro e f18 ⟨rfl, hb⟩; skip; have hbF18 : Below Q.heap.size Q f18 := bnext hbF17 hb; clear hb)
                    (try go_wp2_with fail)
                    clear hHeld
                    refine hK.out _ _ (by (try dsimp only); first | exact KSQ.out _ (Below.refl _ _).drew | exact KSQ.out _ (by assumption)) (fun hHeld => ?_)
                    clear hK K
                    (try simp only [Act.put, List.setIfInBounds_toArray, List.set_cons_zero, List.set_cons_succ])
                    refine wpAnyH_take (i := 69) (oi := Oper.mk (some 168) _ _ _ _ _) (v := ?_) rfl (by kernel_rfl) (by kernel_rfl) (by kernel_rfl) (fun _ _ _ h => h) (Or.inl ⟨by rfl, ?_⟩) (by assumption) ?_
                    rotate_left
                    · (intro w hSw; (try dsimp only at hSw); go_simp <;> (try with_reducible rfl))
                    (try simp only [Act.put, List.setIfInBounds_toArray, List.set_cons_zero, List.set_cons_succ])
                    refine wpAnyH_take (i := 70) (oi := Oper.mk (some 169) _ _ _ _ _) (v := ?_) rfl (by kernel_rfl) (by kernel_rfl) (by kernel_rfl) (fun _ _ _ h => h) (Or.inl ⟨by rfl, ?_⟩) (by assumption) ?_
                    rotate_left
                    · (intro w hSw; (try dsimp only at hSw); go_simp <;> (try with_reducible rfl))
                    (try simp only [Act.put, List.setIfInBounds_toArray, List.set_cons_zero, List.set_cons_succ])
                    refine wpAnyH_done (by kernel_rfl) ?_ _
                    refine NoPanic.normal ?_
                    go_wp2
                    go_meet
                    exact ⟨rfl, hbF18⟩
                  case rest => as_aux_lemma =>
                    obtain ⟨rfl, hz18⟩ := hcut
                    obtain ⟨E, hE9⟩ : ∃ Z, Z = wc := ⟨_, rfl⟩
                    rw [← hE9] at hz18
                    rw [← hE9]
                    clear hE9 KSQ
                    go_upto_region 22 with fail
                    go_cut [10] (fun s10 wx => ∃ r, s10 = .pointer (some ⟨r, 0, none⟩) ∧ Boxed3 wx r false none 0 0 none 0 0 ∧ (∀ j, wx.frozen? ⟨r, j, none⟩ = false) ∧ Q.heap.size ≤ r ∧ Below Q.heap.size Q wx)
                    case first => as_aux_lemma =>
                      go_wp2
                      go_meet
                      exact ⟨_, rfl, ⟨by simp [go_sem], by simp [go_sem], by simp [go_sem]⟩, fun j => by simp [go_sem], hz18.size, below_alloc hz18 (Nat.le_refl _)⟩
                    case rest => as_aux_lemma =>
                      obtain ⟨r10, rfl, hbx, hfx, hr10, hbR⟩ := hcut
                      obtain ⟨R, hR⟩ : ∃ Z, Z = wc := ⟨_, rfl⟩
                      rw [← hR] at hbx hfx hbR
                      rw [← hR]
                      clear hR hz18
                      have HR : Hid (RatAt R na ao la ca po lp cp va ∧ TabAt 0 Lib.deBruijn64tab R ∧ Below w.heap.size w R ∧ (RowAt R .u64 bo lb cb y ∧ RowAt R .u64 qo lq cq f) ∧ (RowAt R .u64 ao la ca x ∧ RowAt R .u64 po lp cp d)) := ⟨HQ.out.1.later hbR, tab_later HQ.out.2.1 hbR, bnext HQ.out.2.2.1 hbR, ⟨HQ.out.2.2.2.1.1.later hbR, HQ.out.2.2.2.1.2.later hbR⟩, ⟨HQ.out.2.2.2.2.1.1.later hbR, HQ.out.2.2.2.2.1.2.later hbR⟩⟩
                      have hsR := hbR.size
                      have hpR : wr.heap.size < R.heap.size := by omega
                      have hr10R : r10 < R.heap.size := cell_lt hbx.1
                      have hp10 : wr.heap.size ≠ r10 := by omega
                      have HPR : Hid (Boxed7 R wr.heap.size na nb ao po bo qo la ca lp cp lb cb lq cq N ∧ Boxed3 R r10 false none 0 0 none 0 0 ∧ (∀ j, R.frozen? ⟨r10, j, none⟩ = false)) := ⟨HPQ.out.1.later hbR hpQ, hbx, hfx⟩
                      have hwr : w.heap.size ≤ r10 := Nat.le_trans HQ.out.2.2.1.size hr10
                      have HQR : Hid (Below Q.heap.size Q R) := hbR
                      clear hbx hfx hbR HD1 HDY HSG HVQ HVX HBW HZZ
                      obtain ⟨bt, hbt⟩ : ∃ b, mayR nb y f = b := ⟨_, rfl⟩
                      have HBT : Hid (mayR nb y f = bt) := hbt
                      clear hbt
                      obtain ⟨q0, q1, q2, q3, q4, q5, q6⟩ := HPR.out.1
                      go_upto_region 23 with fail
                      go_cut [172] (fun s172 wx => s172 = .bool bt ∧ Below R.heap.size R wx)
                      case first =>
                        cases bt
                        · as_aux_lemma =>
                          go_wp2_with (go_at_call 27; refine (two2_any na nb ao po bo qo la ca lp cp lb cb lq cq N x d y f _ HR.out.2.2.2.2.1 HWd.out.1 HR.out.2.2.2.2.2 HWd.out.2.1 HR.out.2.2.2.1.1 HWd.out.2.2.1 HR.out.2.2.2.1.2 HWd.out.2.2.2 (by omega) (by omega) (by omega) (by omega) 20 (by rw [HM.out, HBT.out]; rfl)).mono ?_; rintro e y1 ⟨rfl, hb⟩)
                          go_meet
                          exact ⟨rfl, hb⟩
                        · as_aux_lemma =>
                          go_wp2_with (go_at_call 27; refine (two2_any na nb ao po bo qo la ca lp cp lb cb lq cq N x d y f _ HR.out.2.2.2.2.1 HWd.out.1 HR.out.2.2.2.2.2 HWd.out.2.1 HR.out.2.2.2.1.1 HWd.out.2.2.1 HR.out.2.2.2.1.2 HWd.out.2.2.2 (by omega) (by omega) (by omega) (by omega) 0 (by rw [HM.out, HBT.out]; rfl)).mono ?_; rintro e y1 ⟨rfl, hb⟩)
                          go_meet
                          exact ⟨rfl, hb⟩
                      case rest => as_aux_lemma =>
                        obtain ⟨rfl, hbT⟩ := hcut
                        obtain ⟨T, hT9⟩ : ∃ Z, Z = wc := ⟨_, rfl⟩
                        rw [← hT9] at hbT
                        rw [← hT9]
                        clear hT9 q0 q1 q2 q3 q4 q5 q6
                        have HTT : Hid (RatAt T na ao la ca po lp cp va ∧ TabAt 0 Lib.deBruijn64tab T ∧ Below w.heap.size w T ∧ (RowAt T .u64 bo lb cb y ∧ RowAt T .u64 qo lq cq f) ∧ (RowAt T .u64 ao la ca x ∧ RowAt T .u64 po lp cp d)) := ⟨HR.out.1.later hbT, tab_later HR.out.2.1 hbT, bnext HR.out.2.2.1 hbT, ⟨HR.out.2.2.2.1.1.later hbT, HR.out.2.2.2.1.2.later hbT⟩, ⟨HR.out.2.2.2.2.1.later hbT, HR.out.2.2.2.2.2.later hbT⟩⟩
                        have hsT := hbT.size
                        have HPT : Hid (Boxed7 T wr.heap.size na nb ao po bo qo la ca lp cp lb cb lq cq N ∧ Boxed3 T r10 false none 0 0 none 0 0 ∧ (∀ j, T.frozen? ⟨r10, j, none⟩ = false)) := ⟨HPR.out.1.later hbT hpR, HPR.out.2.1.later hbT hr10R, fun j => (hbT.frozen (p := ⟨r10, j, none⟩) hr10R).trans (HPR.out.2.2 j)⟩
                        have hpT : wr.heap.size < T.heap.size := by omega
                        have hr10T : r10 < T.heap.size := by omega
                        have HQT : Hid (Below Q.heap.size Q T) := bnext HQR.out hbT
                        clear hbT HR HPR HQR
                        obtain ⟨q0, q1, q2, q3, q4, q5, q6⟩ := HPT.out.1
                        cases bt
                        · as_aux_lemma =>
                          go_upto_region 26 with fail
                          have HMB : Hid ((mayR na x d && mayR nb y f) = false) := (by show _ = _; rw [HM.out, HBT.out]; rfl)
                          have KS : Hid (∀ w' : World, Below T.heap.size T w' → w'.cell? ⟨wr.heap.size, 0, none⟩ = some (.bool na) ∧ w'.cell? ⟨wr.heap.size, 1, none⟩ = some (.slice ao la ca) ∧ w'.cell? ⟨wr.heap.size, 2, none⟩ = some (.slice po lp cp) ∧ w'.cell? ⟨wr.heap.size, 3, none⟩ = some (.bool nb) ∧ w'.cell? ⟨wr.heap.size, 4, none⟩ = some (.slice bo lb cb) ∧ w'.cell? ⟨wr.heap.size, 5, none⟩ = some (.slice qo lq cq) ∧ w'.cell? ⟨wr.heap.size, 6, none⟩ = some (.int .i64 N) ∧ w'.cell? ⟨r10, 0, none⟩ = some (.bool false) ∧ w'.cell? ⟨r10, 1, none⟩ = some (.slice none 0 0) ∧ w'.cell? ⟨r10, 2, none⟩ = some (.slice none 0 0)) := fun w' h => (by obtain ⟨a0, a1, a2, a3, a4, a5, a6⟩ := HPT.out.1.later h (by omega); obtain ⟨m0, m1, m2⟩ := HPT.out.2.1.later h (by omega); exact ⟨a0, a1, a2, a3, a4, a5, a6, m0, m1, m2⟩)
                          go_cut [199] (fun s199 wx => s199 = .bool false ∧ Below T.heap.size T wx)
                          case first => as_aux_lemma =>
                            refine wp_region_noPanic ?_
                            refine wp_region_held_drew (S := fun w' => (w'.cell? ⟨wr.heap.size, 0, none⟩ = some (.bool na) ∧ w'.cell? ⟨wr.heap.size, 1, none⟩ = some (.slice ao la ca) ∧ w'.cell? ⟨wr.heap.size, 2, none⟩ = some (.slice po lp cp) ∧ w'.cell? ⟨wr.heap.size, 3, none⟩ = some (.bool nb) ∧ w'.cell? ⟨wr.heap.size, 4, none⟩ = some (.slice bo lb cb) ∧ w'.cell? ⟨wr.heap.size, 5, none⟩ = some (.slice qo lq cq) ∧ w'.cell? ⟨wr.heap.size, 6, none⟩ = some (.int .i64 N) ∧ w'.cell? ⟨r10, 0, none⟩ = some (.bool false) ∧ w'.cell? ⟨r10, 1, none⟩ = some (.slice none 0 0) ∧ w'.cell? ⟨r10, 2, none⟩ = some (.slice none 0 0))) (by kernel_rfl) (by (try dsimp only); exact KS.out _ (Below.refl _ _).drew) (fun hHeld => ?_)
                            refine wpAnyH_take (i := 0) (oi := Oper.mk (some 183) _ _ _ _ _) (v := ?_) rfl (by kernel_rfl) (by kernel_rfl) (by kernel_rfl) (fun _ _ _ h => h) (Or.inl ⟨by rfl, ?_⟩) (by assumption) ?_
                            rotate_left
                            · (intro w hSw; (try dsimp only at hSw); go_simp <;> (try with_reducible rfl))
                            (try simp only [Act.put, List.setIfInBounds_toArray, List.set_cons_zero, List.set_cons_succ])
                            refine wpAnyH_take (i := 1) (oi := Oper.mk (some 184) _ _ _ _ _) (v := ?_) rfl (by kernel_rfl) (by kernel_rfl) (by kernel_rfl) (fun _ _ _ h => h) (Or.inl ⟨by rfl, ?_⟩) (by assumption) ?_
                            rotate_left
                            · (intro w hSw; (try dsimp only at hSw); go_simp <;> (try with_reducible rfl))
                            (try simp only [Act.put, List.setIfInBounds_toArray, List.set_cons_zero, List.set_cons_succ])
                            refine wpAnyH_take (i := 2) (oi := Oper.mk (some 185) _ _ _ _ _) (v := ?_) rfl (by kernel_rfl) (by kernel_rfl) (by kernel_rfl) (fun _ _ _ h => h) (Or.inl ⟨by rfl, ?_⟩) (by assumption) ?_
                            rotate_left
                            · (intro w hSw; (try dsimp only at hSw); go_simp <;> (try with_reducible rfl))
                            (try simp only [Act.put, List.setIfInBounds_toArray, List.set_cons_zero, List.set_cons_succ])
                            refine wpAnyH_take (i := 3) (oi := Oper.mk (some 186) _ _ _ _ _) (v := ?_) rfl (by kernel_rfl) (by kernel_rfl) (by kernel_rfl) (fun _ _ _ h => h) (Or.inl ⟨by rfl, ?_⟩) (by assumption) ?_
                            rotate_left
                            · (intro w hSw; (try dsimp only at hSw); go_simp <;> (try with_reducible rfl))
                            (try simp only [Act.put, List.setIfInBounds_toArray, List.set_cons_zero, List.set_cons_succ])
                            refine wpAnyH_take (i := 5) (oi := Oper.mk (some 188) _ _ _ _ _) (v := ?_) rfl (by kernel_rfl) (by kernel_rfl) (by kernel_rfl) (fun _ _ _ h => h) (Or.inl ⟨by rfl, ?_⟩) (by assumption) ?_
                            rotate_left
                            · (intro w hSw; (try dsimp only at hSw); go_simp <;> (try with_reducible rfl))
                            (try simp only [Act.put, List.setIfInBounds_toArray, List.set_cons_zero, List.set_cons_succ])
                            refine wpAnyH_ready (rs := [4]) (by kernel_rfl) (by simp) ?_
                            refine AllReadyH.cons (o := Oper.mk (some 187) _ _ _ _ _) rfl (fun K hK => ?_) AllReadyH.nil
                            go_simp
                            (go_at_call 30; refine (rcmp_bad na nb ao po bo qo la ca lp cp lb cb lq cq x d y f _ (HTT.out.2.2.2.2.1.later (Below.refl _ _).drew) HWd.out.1 (HTT.out.2.2.2.2.2.later (Below.refl _ _).drew) HWd.out.2.1 (HTT.out.2.2.2.1.1.later (Below.refl _ _).drew) HWd.out.2.2.1 (HTT.out.2.2.2.1.2.later (Below.refl _ _).drew) HWd.out.2.2.2 (by omega) (by omega) (by omega) (by omega) (tab_later HTT.out.2.1 (Below.refl _ _).drew) HMB.out).mono ?_; rintro e f1 ⟨rfl, hb⟩; skip; have hbF1 : Below T.heap.size T f1 := bnext (Below.refl _ _).drew hb; clear hb)
                            (try go_wp2_with fail)
                            clear hHeld
                            refine hK.out _ _ (by (try dsimp only); first | exact KS.out _ (Below.refl _ _).drew | exact KS.out _ (by assumption)) (fun hHeld => ?_)
                            clear hK K
                            (try simp only [Act.put, List.setIfInBounds_toArray, List.set_cons_zero, List.set_cons_succ])
                            refine wpAnyH_take (i := 6) (oi := Oper.mk (some 189) _ _ _ _ _) (v := ?_) rfl (by kernel_rfl) (by kernel_rfl) (by kernel_rfl) (fun _ _ _ h => h) (Or.inl ⟨by rfl, ?_⟩) (by assumption) ?_
                            rotate_left
                            · (intro w hSw; (try dsimp only at hSw); go_simp <;> (try with_reducible rfl))
                            (try simp only [Act.put, List.setIfInBounds_toArray, List.set_cons_zero, List.set_cons_succ])
                            refine wpAnyH_take (i := 7) (oi := Oper.mk (some 190) _ _ _ _ _) (v := ?_) rfl (by kernel_rfl) (by kernel_rfl) (by kernel_rfl) (fun _ _ _ h => h) (Or.inl ⟨by rfl, ?_⟩) (by assumption) ?_
                            rotate_left
                            · (intro w hSw; (try dsimp only at hSw); go_simp <;> (try with_reducible rfl))
                            (try simp only [Act.put, List.setIfInBounds_toArray, List.set_cons_zero, List.set_cons_succ])
                            refine wpAnyH_take (i := 8) (oi := Oper.mk (some 191) _ _ _ _ _) (v := ?_) rfl (by kernel_rfl) (by kernel_rfl) (by kernel_rfl) (fun _ _ _ h => h) (Or.inl ⟨by rfl, ?_⟩) (by assumption) ?_
                            rotate_left
                            · (intro w hSw; (try dsimp only at hSw); go_simp <;> (try with_reducible rfl))
                            (try simp only [Act.put, List.setIfInBounds_toArray, List.set_cons_zero, List.set_cons_succ])
                            refine wpAnyH_take (i := 9) (oi := Oper.mk (some 192) _ _ _ _ _) (v := ?_) rfl (by kernel_rfl) (by kernel_rfl) (by kernel_rfl) (fun _ _ _ h => h) (Or.inl ⟨by rfl, ?_⟩) (by assumption) ?_
                            rotate_left
                            · (intro w hSw; (try dsimp only at hSw); go_simp <;> (try with_reducible rfl))
                            (try simp only [Act.put, List.setIfInBounds_toArray, List.set_cons_zero, List.set_cons_succ])
                            refine wpAnyH_take (i := 10) (oi := Oper.mk (some 193) _ _ _ _ _) (v := ?_) rfl (by kernel_rfl) (by kernel_rfl) (by kernel_rfl) (fun _ _ _ h => h) (Or.inl ⟨by rfl, ?_⟩) (by assumption) ?_
                            rotate_left
                            · (intro w hSw; (try dsimp only at hSw); go_simp <;> (try with_reducible rfl))
                            (try simp only [Act.put, List.setIfInBounds_toArray, List.set_cons_zero, List.set_cons_succ])
                            refine wpAnyH_take (i := 11) (oi := Oper.mk (some 194) _ _ _ _ _) (v := ?_) rfl (by kernel_rfl) (by kernel_rfl) (by kernel_rfl) (fun _ _ _ h => h) (Or.inl ⟨by rfl, ?_⟩) (by assumption) ?_
                            rotate_left
                            · (intro w hSw; (try dsimp only at hSw); go_simp <;> (try with_reducible rfl))
                            (try simp only [Act.put, List.setIfInBounds_toArray, List.set_cons_zero, List.set_cons_succ])
                            refine wpAnyH_take (i := 13) (oi := Oper.mk (some 196) _ _ _ _ _) (v := ?_) rfl (by kernel_rfl) (by kernel_rfl) (by kernel_rfl) (fun _ _ _ h => h) (Or.inl ⟨by rfl, ?_⟩) (by assumption) ?_
                            rotate_left
                            · (intro w hSw; (try dsimp only at hSw); go_simp <;> (try with_reducible rfl))
                            (try simp only [Act.put, List.setIfInBounds_toArray, List.set_cons_zero, List.set_cons_succ])
                            refine wpAnyH_ready (rs := [12]) (by kernel_rfl) (by simp) ?_
                            refine AllReadyH.cons (o := Oper.mk (some 195) _ _ _ _ _) rfl (fun K hK => ?_) AllReadyH.nil
                            go_simp
                            (go_at_call 31; refine (rmid_bad na nb ao po bo qo la ca lp cp lb cb lq cq x d y f _ (HTT.out.2.2.2.2.1.later hbF1) HWd.out.1 (HTT.out.2.2.2.2.2.later hbF1) HWd.out.2.1 (HTT.out.2.2.2.1.1.later hbF1) HWd.out.2.2.1 (HTT.out.2.2.2.1.2.later hbF1) HWd.out.2.2.2 (by omega) (by omega) (by omega) (by omega) (tab_later HTT.out.2.1 hbF1) HMB.out).mono ?_; rintro e f2 ⟨rfl, hb⟩; skip; have hbF2 : Below T.heap.size T f2 := bnext hbF1 hb; clear hb)
                            (try go_wp2_with fail)
                            clear hHeld
                            refine hK.out _ _ (by (try dsimp only); first | exact KS.out _ (Below.refl _ _).drew | exact KS.out _ (by assumption)) (fun hHeld => ?_)
                            clear hK K
                            (try simp only [Act.put, List.setIfInBounds_toArray, List.set_cons_zero, List.set_cons_succ])
                            refine wpAnyH_ready (rs := [14]) (by kernel_rfl) (by simp) ?_
                            refine AllReadyH.cons (o := Oper.mk (some 197) _ _ _ _ _) rfl (fun K hK => ?_) AllReadyH.nil
                            go_simp
                            (go_at_call 14; refine (eqraw_same false none none none none 0 0 0 0 0 0 0 0 [] [] _ (RowAt.nilRow _ _) (RowAt.nilRow _ _) (RowAt.nilRow _ _) (RowAt.nilRow _ _) (by omega) (by omega)).mono ?_; rintro e f3 ⟨rfl, hb⟩; skip; have hbF3 : Below T.heap.size T f3 := bnext hbF2 hb; clear hb)
                            (try go_wp2_with fail)
                            clear hHeld
                            refine hK.out _ _ (by (try dsimp only); first | exact KS.out _ (Below.refl _ _).drew | exact KS.out _ (by assumption)) (fun hHeld => ?_)
                            clear hK K
                            (try simp only [Act.put, List.setIfInBounds_toArray, List.set_cons_zero, List.set_cons_succ])
                            refine wpAnyH_take (i := 15) (oi := Oper.mk (some 198) _ _ _ _ _) (v := ?_) rfl (by kernel_rfl) (by kernel_rfl) (by kernel_rfl) (fun _ _ _ h => h) (Or.inl ⟨by rfl, ?_⟩) (by assumption) ?_
                            rotate_left
                            · (intro w hSw; (try dsimp only at hSw); go_simp <;> (try with_reducible rfl))
                            (try simp only [Act.put, List.setIfInBounds_toArray, List.set_cons_zero, List.set_cons_succ])
                            refine wpAnyH_take (i := 16) (oi := Oper.mk (some 199) _ _ _ _ _) (v := ?_) rfl (by kernel_rfl) (by kernel_rfl) (by kernel_rfl) (fun _ _ _ h => h) (Or.inl ⟨by rfl, ?_⟩) (by assumption) ?_
                            rotate_left
                            · (intro w hSw; (try dsimp only at hSw); go_simp <;> (try with_reducible rfl))
                            (try simp only [Act.put, List.setIfInBounds_toArray, List.set_cons_zero, List.set_cons_succ])
                            refine wpAnyH_done (by kernel_rfl) ?_ _
                            refine NoPanic.normal ?_
                            go_wp2
                            go_meet
                            exact ⟨rfl, hbF3⟩
                          case rest => as_aux_lemma =>
                            obtain ⟨rfl, hbE⟩ := hcut
                            go_wp2
                            go_roundw
                            case rel => exact ⟨k + 1, by omega, by omega, by go_num, bnext HTT.out.2.2.1 hbE⟩
                            case measure => simp [intOf]; omega
                        · as_aux_lemma =>
                          obtain ⟨vb, hIb, _, _⟩ := rat_of_may HQ.out.2.2.2.1.1 HWd.out.2.2.1 HQ.out.2.2.2.1.2 HWd.out.2.2.2 HBT.out
                          have HB : Hid (RatAt Q nb bo lb cb qo lq cq vb ∧ Sz vb 8) := ⟨hIb, ⟨by rw [← hIb.num.row.hlen]; exact hlb, by rw [← hIb.den.hlen]; exact hlq⟩⟩
                          clear hIb
                          obtain ⟨cc, hcc⟩ : ∃ c, cmpQ va vb = c := ⟨_, rfl⟩
                          have HCC : Hid (cmpQ va vb = cc) := hcc
                          clear hcc
                          go_upto_region 25 with (go_at_call 28; refine (qcmp_any na nb ao po bo qo la ca lp cp lb cb lq cq va vb _ HTT.out.1 (HB.out.1.later HQT.out) (HSz.out.mono (by decide)) (HB.out.2.mono (by decide)) cc HCC.out).mono ?_; rintro e t1 ⟨rfl, ht1⟩; clear q0 q1 q2 q3 q4 q5 q6; obtain ⟨q0, q1, q2, q3, q4, q5, q6⟩ := HPT.out.1.later ht1 hpT)
                          go_cut [182] (fun s182 wx => ∃ n o l c p m k, RVar wx r10 n o l c p m k ((va + vb) * half2) ∧ Below Q.heap.size Q wx)
                          case first => as_aux_lemma =>
                            go_wp2_with (go_at_call 29; refine (qmid_any na nb ao po bo qo la ca lp cp lb cb lq cq va vb _ (HTT.out.1.later ht1) ((HB.out.1.later HQT.out).later ht1) (HSz.out.mono (by decide)) (HB.out.2.mono (by decide))).mono ?_; rintro e y5 ⟨n5, o5, l5, c5, p5, m5, k5, rfl, hr, hb5⟩; have HA5 : Hid (RatAt y5 n5 o5 l5 c5 p5 m5 k5 ((va + vb) * half2) ∧ Below T.heap.size T y5 ∧ Below Q.heap.size Q y5) := ⟨hr, bnext ht1 hb5, bnext HQT.out (bnext ht1 hb5)⟩; clear hr hb5; have HS5 : Hid (Boxed3 y5 r10 false none 0 0 none 0 0 ∧ (∀ j, y5.frozen? ⟨r10, j, none⟩ = false)) := ⟨HPT.out.2.1.later HA5.out.2.1 hr10T, fun j => (HA5.out.2.1.frozen (p := ⟨r10, j, none⟩) hr10T).trans (HPT.out.2.2 j)⟩; clear q0 q1 q2 q3 q4 q5 q6 ht1; obtain ⟨⟨e0, e1, e2⟩, e3⟩ := HS5.out)
                            go_meet
                            exact ⟨n5, o5, l5, c5, p5, m5, k5, nv_r HA5.out.1 HS5.out.1, below_store3 HA5.out.2.2 hr10 _ _ _⟩
                          case rest => as_aux_lemma =>
                            obtain ⟨n5, o5, l5, c5, p5, m5, k5, hv5, hbX⟩ := hcut
                            obtain ⟨X, hX⟩ : ∃ Z, Z = wc := ⟨_, rfl⟩
                            rw [← hX] at hv5 hbX
                            rw [← hX]
                            have HXX : Hid (RatAt X na ao la ca po lp cp va ∧ RatAt X nb bo lb cb qo lq cq vb ∧ RVar X r10 n5 o5 l5 c5 p5 m5 k5 ((va + vb) * half2) ∧ TabAt 0 Lib.deBruijn64tab X ∧ Below w.heap.size w X) := ⟨HQ.out.1.later hbX, HB.out.1.later hbX, hv5, tab_later HQ.out.2.1 hbX, bnext HQ.out.2.2.1 hbX⟩
                            have HSb : Hid (Sz va 200 ∧ Sz vb 200 ∧ Sz ((va + vb) * half2) 1000) := ⟨HSz.out.mono (by decide), HB.out.2.mono (by decide), ((HSz.out.add HB.out.2).mul sz_half2).mono (by decide)⟩
                            have HPX : Hid (Boxed7 X wr.heap.size na nb ao po bo qo la ca lp cp lb cb lq cq N ∧ Boxed3 X r10 n5 o5 l5 c5 p5 m5 k5 ∧ True) := ⟨HPQ.out.1.later hbX hpQ, hv5.box, trivial⟩
                            have hpX : wr.heap.size < X.heap.size := Nat.lt_of_lt_of_le hpQ hbX.size
                            have hr10X : r10 < X.heap.size := hv5.lt
                            clear hX hv5 hbX HQ HPQ HTT HPT HB ht1 q0 q1 q2 q3 q4 q5 q6 HQT HSz
                            have KS : Hid (∀ w' : World, Below X.heap.size X w' → w'.cell? ⟨wr.heap.size, 0, none⟩ = some (.bool na) ∧ w'.cell? ⟨wr.heap.size, 1, none⟩ = some (.slice ao la ca) ∧ w'.cell? ⟨wr.heap.size, 2, none⟩ = some (.slice po lp cp) ∧ w'.cell? ⟨wr.heap.size, 3, none⟩ = some (.bool nb) ∧ w'.cell? ⟨wr.heap.size, 4, none⟩ = some (.slice bo lb cb) ∧ w'.cell? ⟨wr.heap.size, 5, none⟩ = some (.slice qo lq cq) ∧ w'.cell? ⟨wr.heap.size, 6, none⟩ = some (.int .i64 N) ∧ w'.cell? ⟨r10, 0, none⟩ = some (.bool n5) ∧ w'.cell? ⟨r10, 1, none⟩ = some (.slice o5 l5 c5) ∧ w'.cell? ⟨r10, 2, none⟩ = some (.slice p5 m5 k5)) := fun w' h => (by obtain ⟨a0, a1, a2, a3, a4, a5, a6⟩ := HPX.out.1.later h (by omega); obtain ⟨m0, m1, m2⟩ := HPX.out.2.1.later h (by omega); exact ⟨a0, a1, a2, a3, a4, a5, a6, m0, m1, m2⟩)
                            go_upto_region 26 with fail
                            go_cut [199] (fun s199 wx => s199 = .bool false ∧ Below X.heap.size X wx)
                            case first => as_aux_lemma =>
                              refine wp_region_noPanic ?_
                              refine wp_region_held_drew (S := fun w' => (w'.cell? ⟨wr.heap.size, 0, none⟩ = some (.bool na) ∧ w'.cell? ⟨wr.heap.size, 1, none⟩ = some (.slice ao la ca) ∧ w'.cell? ⟨wr.heap.size, 2, none⟩ = some (.slice po lp cp) ∧ w'.cell? ⟨wr.heap.size, 3, none⟩ = some (.bool nb) ∧ w'.cell? ⟨wr.heap.size, 4, none⟩ = some (.slice bo lb cb) ∧ w'.cell? ⟨wr.heap.size, 5, none⟩ = some (.slice qo lq cq) ∧ w'.cell? ⟨wr.heap.size, 6, none⟩ = some (.int .i64 N) ∧ w'.cell? ⟨r10, 0, none⟩ = some (.bool n5) ∧ w'.cell? ⟨r10, 1, none⟩ = some (.slice o5 l5 c5) ∧ w'.cell? ⟨r10, 2, none⟩ = some (.slice p5 m5 k5))) (by kernel_rfl) (by (try dsimp only); exact KS.out _ (Below.refl _ _).drew) (fun hHeld => ?_)
                              refine wpAnyH_take (i := 0) (oi := Oper.mk (some 183) _ _ _ _ _) (v := ?_) rfl (by kernel_rfl) (by kernel_rfl) (by kernel_rfl) (fun _ _ _ h => h) (Or.inl ⟨by rfl, ?_⟩) (by assumption) ?_
                              rotate_left
                              · (intro w hSw; (try dsimp only at hSw); go_simp <;> (try with_reducible rfl))
                              (try simp only [Act.put, List.setIfInBounds_toArray, List.set_cons_zero, List.set_cons_succ])
                              refine wpAnyH_take (i := 1) (oi := Oper.mk (some 184) _ _ _ _ _) (v := ?_) rfl (by kernel_rfl) (by kernel_rfl) (by kernel_rfl) (fun _ _ _ h => h) (Or.inl ⟨by rfl, ?_⟩) (by assumption) ?_
                              rotate_left
                              · (intro w hSw; (try dsimp only at hSw); go_simp <;> (try with_reducible rfl))
                              (try simp only [Act.put, List.setIfInBounds_toArray, List.set_cons_zero, List.set_cons_succ])
                              refine wpAnyH_take (i := 2) (oi := Oper.mk (some 185) _ _ _ _ _) (v := ?_) rfl (by kernel_rfl) (by kernel_rfl) (by kernel_rfl) (fun _ _ _ h => h) (Or.inl ⟨by rfl, ?_⟩) (by assumption) ?_
                              rotate_left
                              · (intro w hSw; (try dsimp only at hSw); go_simp <;> (try with_reducible rfl))
                              (try simp only [Act.put, List.setIfInBounds_toArray, List.set_cons_zero, List.set_cons_succ])
                              refine wpAnyH_take (i := 3) (oi := Oper.mk (some 186) _ _ _ _ _) (v := ?_) rfl (by kernel_rfl) (by kernel_rfl) (by kernel_rfl) (fun _ _ _ h => h) (Or.inl ⟨by rfl, ?_⟩) (by assumption) ?_
                              rotate_left
                              · (intro w hSw; (try dsimp only at hSw); go_simp <;> (try with_reducible rfl))
                              (try simp only [Act.put, List.setIfInBounds_toArray, List.set_cons_zero, List.set_cons_succ])
                              refine wpAnyH_take (i := 5) (oi := Oper.mk (some 188) _ _ _ _ _) (v := ?_) rfl (by kernel_rfl) (by kernel_rfl) (by kernel_rfl) (fun _ _ _ h => h) (Or.inl ⟨by rfl, ?_⟩) (by assumption) ?_
                              rotate_left
                              · (intro w hSw; (try dsimp only at hSw); go_simp <;> (try with_reducible rfl))
                              (try simp only [Act.put, List.setIfInBounds_toArray, List.set_cons_zero, List.set_cons_succ])
                              refine wpAnyH_ready (rs := [4]) (by kernel_rfl) (by simp) ?_
                              refine AllReadyH.cons (o := Oper.mk (some 187) _ _ _ _ _) rfl (fun K hK => ?_) AllReadyH.nil
                              go_simp
                              (go_at_call 30; refine (cmp_rat na nb ao po bo qo la ca lp cp lb cb lq cq va vb _ (HXX.out.1.later (Below.refl _ _).drew) (HXX.out.2.1.later (Below.refl _ _).drew) (HSb.out.1.mono (by decide)) (HSb.out.2.1.mono (by decide)) (tab_later HXX.out.2.2.2.1 (Below.refl _ _).drew) cc HCC.out).mono ?_; rintro e f1 ⟨rfl, hb⟩; skip; have hbF1 : Below X.heap.size X f1 := bnext (Below.refl _ _).drew hb; clear hb)
                              (try go_wp2_with fail)
                              clear hHeld
                              refine hK.out _ _ (by (try dsimp only); first | exact KS.out _ (Below.refl _ _).drew | exact KS.out _ (by assumption)) (fun hHeld => ?_)
                              clear hK K
                              (try simp only [Act.put, List.setIfInBounds_toArray, List.set_cons_zero, List.set_cons_succ])
                              refine wpAnyH_take (i := 6) (oi := Oper.mk (some 189) _ _ _ _ _) (v := ?_) rfl (by kernel_rfl) (by kernel_rfl) (by kernel_rfl) (fun _ _ _ h => h) (Or.inl ⟨by rfl, ?_⟩) (by assumption) ?_
                              rotate_left
                              · (intro w hSw; (try dsimp only at hSw); go_simp <;> (try with_reducible rfl))
                              (try simp only [Act.put, List.setIfInBounds_toArray, List.set_cons_zero, List.set_cons_succ])
                              refine wpAnyH_take (i := 7) (oi := Oper.mk (some 190) _ _ _ _ _) (v := ?_) rfl (by kernel_rfl) (by kernel_rfl) (by kernel_rfl) (fun _ _ _ h => h) (Or.inl ⟨by rfl, ?_⟩) (by assumption) ?_
                              rotate_left
                              · (intro w hSw; (try dsimp only at hSw); go_simp <;> (try with_reducible rfl))
                              (try simp only [Act.put, List.setIfInBounds_toArray, List.set_cons_zero, List.set_cons_succ])
                              refine wpAnyH_take (i := 8) (oi := Oper.mk (some 191) _ _ _ _ _) (v := ?_) rfl (by kernel_rfl) (by kernel_rfl) (by kernel_rfl) (fun _ _ _ h => h) (Or.inl ⟨by rfl, ?_⟩) (by assumption) ?_
                              rotate_left
                              · (intro w hSw; (try dsimp only at hSw); go_simp <;> (try with_reducible rfl))
                              (try simp only [Act.put, List.setIfInBounds_toArray, List.set_cons_zero, List.set_cons_succ])
                              refine wpAnyH_take (i := 9) (oi := Oper.mk (some 192) _ _ _ _ _) (v := ?_) rfl (by kernel_rfl) (by kernel_rfl) (by kernel_rfl) (fun _ _ _ h => h) (Or.inl ⟨by rfl, ?_⟩) (by assumption) ?_
                              rotate_left
                              · (intro w hSw; (try dsimp only at hSw); go_simp <;> (try with_reducible rfl))
                              (try simp only [Act.put, List.setIfInBounds_toArray, List.set_cons_zero, List.set_cons_succ])
                              refine wpAnyH_take (i := 10) (oi := Oper.mk (some 193) _ _ _ _ _) (v := ?_) rfl (by kernel_rfl) (by kernel_rfl) (by kernel_rfl) (fun _ _ _ h => h) (Or.inl ⟨by rfl, ?_⟩) (by assumption) ?_
                              rotate_left
                              · (intro w hSw; (try dsimp only at hSw); go_simp <;> (try with_reducible rfl))
                              (try simp only [Act.put, List.setIfInBounds_toArray, List.set_cons_zero, List.set_cons_succ])
                              refine wpAnyH_take (i := 11) (oi := Oper.mk (some 194) _ _ _ _ _) (v := ?_) rfl (by kernel_rfl) (by kernel_rfl) (by kernel_rfl) (fun _ _ _ h => h) (Or.inl ⟨by rfl, ?_⟩) (by assumption) ?_
                              rotate_left
                              · (intro w hSw; (try dsimp only at hSw); go_simp <;> (try with_reducible rfl))
                              (try simp only [Act.put, List.setIfInBounds_toArray, List.set_cons_zero, List.set_cons_succ])
                              refine wpAnyH_take (i := 13) (oi := Oper.mk (some 196) _ _ _ _ _) (v := ?_) rfl (by kernel_rfl) (by kernel_rfl) (by kernel_rfl) (fun _ _ _ h => h) (Or.inl ⟨by rfl, ?_⟩) (by assumption) ?_
                              rotate_left
                              · (intro w hSw; (try dsimp only at hSw); go_simp <;> (try with_reducible rfl))
                              (try simp only [Act.put, List.setIfInBounds_toArray, List.set_cons_zero, List.set_cons_succ])
                              refine wpAnyH_ready (rs := [12]) (by kernel_rfl) (by simp) ?_
                              refine AllReadyH.cons (o := Oper.mk (some 195) _ _ _ _ _) rfl (fun K hK => ?_) AllReadyH.nil
                              go_simp
                              (go_at_call 31; refine (mid_rat na nb ao po bo qo la ca lp cp lb cb lq cq va vb _ (HXX.out.1.later hbF1) (HXX.out.2.1.later hbF1) HSb.out.1 HSb.out.2.1 (tab_later HXX.out.2.2.2.1 hbF1)).mono ?_; rintro e f2 ⟨n6, o6, l6, c6, p6, m6, k6, rfl, hs, ho, hp, _, hb⟩; have H6 : Hid (RatAt f2 n6 o6 l6 c6 p6 m6 k6 ((va + vb) * half2)) := ⟨ho.int hs, hp.row⟩; clear hs ho hp; have hbF2 : Below X.heap.size X f2 := bnext hbF1 hb; clear hb)
                              (try go_wp2_with fail)
                              clear hHeld
                              refine hK.out _ _ (by (try dsimp only); first | exact KS.out _ (Below.refl _ _).drew | exact KS.out _ (by assumption)) (fun hHeld => ?_)
                              clear hK K
                              (try simp only [Act.put, List.setIfInBounds_toArray, List.set_cons_zero, List.set_cons_succ])
                              refine wpAnyH_ready (rs := [14]) (by kernel_rfl) (by simp) ?_
                              refine AllReadyH.cons (o := Oper.mk (some 197) _ _ _ _ _) rfl (fun K hK => ?_) AllReadyH.nil
                              go_simp
                              (go_at_call 14; refine (eqrat_same n6 n5 o6 p6 o5 p5 l6 c6 m6 k6 l5 c5 m5 k5 ((va + vb) * half2) _ H6.out (HXX.out.2.2.1.rat.later hbF2) (by have := (H6.out.len HSb.out.2.2).1; omega) (by have := (H6.out.len HSb.out.2.2).2; omega)).mono ?_; rintro e f3 ⟨rfl, hb⟩; skip; have hbF3 : Below X.heap.size X f3 := bnext hbF2 hb; clear hb)
                              (try go_wp2_with fail)
                              clear hHeld
                              refine hK.out _ _ (by (try dsimp only); first | exact KS.out _ (Below.refl _ _).drew | exact KS.out _ (by assumption)) (fun hHeld => ?_)
                              clear hK K
                              (try simp only [Act.put, List.setIfInBounds_toArray, List.set_cons_zero, List.set_cons_succ])
                              refine wpAnyH_take (i := 15) (oi := Oper.mk (some 198) _ _ _ _ _) (v := ?_) rfl (by kernel_rfl) (by kernel_rfl) (by kernel_rfl) (fun _ _ _ h => h) (Or.inl ⟨by rfl, ?_⟩) (by assumption) ?_
                              rotate_left
                              · (intro w hSw; (try dsimp only at hSw); go_simp <;> (try with_reducible rfl))
                              (try simp only [Act.put, List.setIfInBounds_toArray, List.set_cons_zero, List.set_cons_succ])
                              refine wpAnyH_take (i := 16) (oi := Oper.mk (some 199) _ _ _ _ _) (v := ?_) rfl (by kernel_rfl) (by kernel_rfl) (by kernel_rfl) (fun _ _ _ h => h) (Or.inl ⟨by rfl, ?_⟩) (by assumption) ?_
                              rotate_left
                              · (intro w hSw; (try dsimp only at hSw); go_simp <;> (try with_reducible rfl))
                              (try simp only [Act.put, List.setIfInBounds_toArray, List.set_cons_zero, List.set_cons_succ])
                              refine wpAnyH_done (by kernel_rfl) ?_ _
                              refine NoPanic.normal ?_
                              go_wp2
                              go_meet
                              exact ⟨rfl, hbF3⟩
                            case rest => as_aux_lemma =>
                              obtain ⟨rfl, hbE⟩ := hcut
                              go_wp2
                              go_roundw
                              case rel => exact ⟨k + 1, by omega, by omega, by go_num, bnext HXX.out.2.2.2.2 hbE⟩
                              case measure => simp [intOf]; omega
      · as_aux_lemma =>
        have HH : Hid (((decide ((8 : Int) < (la : Int)) || decide ((8 : Int) < (lp : Int))) || (decide ((8 : Int) < (lb : Int)) || decide ((8 : Int) < (lq : Int)))) = true) := hhv
        clear hhv
        go_wp2_with (go_at_call 6; refine (heavyR_any na nb ao po bo qo la ca lp cp lb cb lq cq N _ true HH.out).mono ?_; rintro e w1 ⟨rfl, hb1⟩)
        go_ret
        exact ⟨rfl, bnext hbW hb1⟩
    · have hwk : ∀ X, Below w.heap.size w X → Calls Tryz.prog 32 #[] X fun e w' => e = .returned (.bool true) ∧ Below X.heap.size X w' := fun X h => wakes2_any X (tab_later HT.out.1 h) (HT.out.2.later h)
      have hend : ¬ k < len ∨ k = 30 := by omega
      clear hlt
      rcases hend with he | he
      · as_aux_lemma =>
        go_wp2_with (go_at_call 32; refine (hwk _ hbel).mono ?_; rintro e w9 ⟨rfl, hb9⟩)
        go_ret
        exact ⟨rfl, bnext hbel hb9⟩
      · subst he
        by_cases hq : 30 < len
        · as_aux_lemma =>
          go_wp2_with (go_at_call 32; refine (hwk _ hbel).mono ?_; rintro e w9 ⟨rfl, hb9⟩)
          go_ret
          exact ⟨rfl, bnext hbel hb9⟩
        · as_aux_lemma =>
          go_wp2_with (go_at_call 32; refine (hwk _ hbel).mono ?_; rintro e w9 ⟨rfl, hb9⟩)
          go_ret
          exact ⟨rfl, bnext hbel hb9⟩
end Go.Proofs.YtiiefpnkpfliiaaGreatDoor
