/-
  The walk of RatPowers.
-/
import Derived.Test.YtljmbnbilmghhabGreatDoorRL
namespace Go.Proofs.YtljmbnbilmghhabGreatDoor
open Go.RowKit
set_option linter.unusedVariables false
set_option linter.unusedSimpArgs false

theorem sz_pow {a : Rat} {n : Nat} (h : Sz a 2) (hn : n ≤ 12) : Sz (a ^ n) 25 :=
  ⟨by rw [Rat.num_pow, Int.natAbs_pow]; exact pow_len_le (K := 12) h.1 hn (Nat.le_refl _), by rw [Rat.den_pow]; exact pow_len_le (K := 12) h.2 hn (Nat.le_refl _)⟩
theorem sz_zpow {a : Rat} {n : Int} (h : Sz a 2) (h0 : a ≠ 0) (hn : n.natAbs ≤ 12) : Sz (a ^ n) 25 := by
  rcases Int.le_total 0 n with e | e
  · obtain ⟨k, rfl⟩ : ∃ k : Nat, n = (k : Int) := ⟨n.natAbs, by omega⟩
    rw [Rat.zpow_natCast]; exact sz_pow h (by omega)
  · obtain ⟨k, rfl⟩ : ∃ k : Nat, n = -(k : Int) := ⟨n.natAbs, by omega⟩
    rw [← inv_pow]; exact sz_pow (h.inv h0) (by omega)
theorem pow_at (na : Bool) (ao po : Option Addr) (la ca lp cp : Nat) (n : Int) (a : Rat) (w : World) (hx : RatAt w na ao la ca po lp cp a) (h0 : a ≠ 0) (hz : Sz a 2) (hn : n.natAbs ≤ 12) (hT0 : TabAt 0 Lib.deBruijn64tab w) :
    Calls Tryz.prog 8 #[.agg #[.bool na, .slice ao la ca, .slice po lp cp], .int .i64 n] w fun e w' => NewRatErr w w' e (a ^ n) := by
  have h1 := hx.len hz
  have h2 := hz.inv h0
  exact pow_rat na ao po la ca lp cp n a w hx h0 ⟨by omega, by omega⟩ (by omega) (by omega) hT0 ⟨⟨powfits_small hz.1 hn, powfits_small (by rw [Int.natAbs_natCast]; exact hz.2) hn⟩, ⟨powfits_small h2.1 hn, powfits_small (by rw [Int.natAbs_natCast]; exact h2.2) hn⟩⟩

set_option maxRecDepth 100000 in
set_option maxHeartbeats 20000000 in
theorem ratPowers_any (lo : Option Addr) (len cap : Nat) (w : World) (hE : ElemsR w lo len) (hl : len ≤ 9223372036854775807) (hT0 : TabAt 0 Lib.deBruijn64tab w) (hP0 : Pow10 w) :
    Calls Tryz.prog 3 #[.slice lo len cap] w fun e w' => e = .returned (.bool true) ∧ Below w.heap.size w w' := by
  have HT : Hid (TabAt 0 Lib.deBruijn64tab w ∧ Pow10 w) := ⟨hT0, hP0⟩
  clear hT0 hP0
  go_enter Tryz.func3, Tryz.ntmps3
  go_wp2
  go_loopw [3] (fun i wr => ∃ k : Nat, k ≤ len ∧ k ≤ 30 ∧ i = .int .i64 k ∧ Below w.heap.size w wr) (fun i _ => 30 - (intOf i).toNat)
  case atStart => exact ⟨0, Nat.zero_le _, by omega, rfl, Below.refl _ _⟩
  case round =>
    obtain ⟨k, hk, hk30, rfl, hbel⟩ := hrel
    by_cases hlt : k < len ∧ k < 30
    · obtain ⟨hlt, hlt30⟩ := hlt
      obtain ⟨b, off, rfl, hbw, hel⟩ := hE k hlt
      obtain ⟨na, nb, ao, po, bo, qo, la, ca, lp, cp, lb, cb, lq, cq, N, x, d, y, f, ⟨h0, h1, h2, h3, h4, h5, h6⟩, r1, v1, r2, v2, r3, v3, r4, v4, hn1, hn2⟩ := hel.later hbel hbw
      obtain ⟨W, hT⟩ := InR.mk' wr na nb ao po bo qo la ca lp cp lb cb lq cq N
      have hsz := hT.size
      have hbW : Below w.heap.size w W := bnext hbel hT.below
      have hwW := hbW.size
      have HX : Hid (RowAt W .u64 ao la ca x ∧ Wd 18446744073709551616 x ∧ RowAt W .u64 po lp cp d ∧ Wd 18446744073709551616 d) := ⟨r1.later hT.below, v1, r2.later hT.below, v2⟩
      clear r1 r2 r3 r4 v1 v2 v3 v4
      by_cases hL : 2 < la ∨ 2 < lp
      · as_aux_lemma =>
        have hLong : ∀ X, Calls Tryz.prog 4 #[.agg #[.bool na, .slice ao la ca, .slice po lp cp], .int .i64 2] X fun e w' => e = .returned (.bool true) ∧ Below X.heap.size X w' := fun X => longRat_any na ao po la ca lp cp 2 X true (by
          rcases hL with h | h
          · rw [decide_eq_true (by omega)]; rfl
          · rw [decide_eq_true (p := (2 : Int) < (lp : Int)) (by omega)]; simp)
        clear hL
        go_wp2_with (first
          | (go_at_call 4; rw [← hT.eq]; refine (hLong _).mono ?_; rintro e w1 ⟨rfl, hb1⟩; obtain ⟨q0, q1, q2, q3, q4, q5, q6⟩ := hT.p.later hb1 (by omega)))
        go_roundw
        case rel => exact ⟨k + 1, by omega, by omega, by go_num, bnext hbW hb1⟩
        case measure => simp [intOf]; omega
      · have hla : la ≤ 2 := by omega
        have hlp : lp ≤ 2 := by omega
        have hLong : ∀ X, Calls Tryz.prog 4 #[.agg #[.bool na, .slice ao la ca, .slice po lp cp], .int .i64 2] X fun e w' => e = .returned (.bool false) ∧ Below X.heap.size X w' := fun X => longRat_any na ao po la ca lp cp 2 X false (by rw [decide_eq_false (by omega), decide_eq_false (by omega)]; rfl)
        clear hL
        cases hm : mayR na x d
        · as_aux_lemma =>
          have hMay : ∀ X, Below W.heap.size W X → Calls Tryz.prog 5 #[.agg #[.bool na, .slice ao la ca, .slice po lp cp]] X fun e w' => e = .returned (.bool false) ∧ Below X.heap.size X w' := fun X h => qmay_any na ao po la ca lp cp x d X (HX.out.1.later h) HX.out.2.1 (HX.out.2.2.1.later h) HX.out.2.2.2 (by omega) (by omega) false hm
          clear hm
          go_wp2_with (first
            | (go_at_call 4; rw [← hT.eq]; refine (hLong _).mono ?_; rintro e w1 ⟨rfl, hb1⟩; obtain ⟨q0, q1, q2, q3, q4, q5, q6⟩ := hT.p.later hb1 (by omega))
            | (go_at_call 5; refine (hMay _ hb1).mono ?_; rintro e w2 ⟨rfl, hb2'⟩; have hb2 := bnext hb1 hb2'; clear hb2'; clear q0 q1 q2 q3 q4 q5 q6; obtain ⟨q0, q1, q2, q3, q4, q5, q6⟩ := hT.p.later hb2 (by omega)))
          go_roundw
          case rel => exact ⟨k + 1, by omega, by omega, by go_num, bnext hbW hb2⟩
          case measure => simp [intOf]; omega
        · have hMay : ∀ X, Below W.heap.size W X → Calls Tryz.prog 5 #[.agg #[.bool na, .slice ao la ca, .slice po lp cp]] X fun e w' => e = .returned (.bool true) ∧ Below X.heap.size X w' := fun X h => qmay_any na ao po la ca lp cp x d X (HX.out.1.later h) HX.out.2.1 (HX.out.2.2.1.later h) HX.out.2.2.2 (by omega) (by omega) true hm
          obtain ⟨a, hA, ea, ed⟩ := rat_of_may HX.out.1 HX.out.2.1 HX.out.2.2.1 HX.out.2.2.2 hm
          clear hm
          by_cases hz0 : la = 0
          · as_aux_lemma =>
            have hZero : ∀ X, Calls Tryz.prog 6 #[.agg #[.bool na, .slice ao la ca, .slice po lp cp]] X fun e w' => e = .returned (.bool true) ∧ Below X.heap.size X w' := fun X => qzero_any na ao po la ca lp cp X true (by simp; omega)
            clear hz0 hA ea ed
            go_wp2_with (first
              | (go_at_call 4; rw [← hT.eq]; refine (hLong _).mono ?_; rintro e w1 ⟨rfl, hb1⟩; obtain ⟨q0, q1, q2, q3, q4, q5, q6⟩ := hT.p.later hb1 (by omega))
              | (go_at_call 5; refine (hMay _ hb1).mono ?_; rintro e w2 ⟨rfl, hb2'⟩; have hb2 := bnext hb1 hb2'; clear hb2'; clear q0 q1 q2 q3 q4 q5 q6; obtain ⟨q0, q1, q2, q3, q4, q5, q6⟩ := hT.p.later hb2 (by omega))
              | (go_at_call 6; refine (hZero _).mono ?_; rintro e w3 ⟨rfl, hb3'⟩; have hb3 := bnext hb2 hb3'; clear hb3'; clear q0 q1 q2 q3 q4 q5 q6; obtain ⟨q0, q1, q2, q3, q4, q5, q6⟩ := hT.p.later hb3 (by omega)))
            go_roundw
            case rel => exact ⟨k + 1, by omega, by omega, by go_num, bnext hbW hb3⟩
            case measure => simp [intOf]; omega
          · have hZero : ∀ X, Calls Tryz.prog 6 #[.agg #[.bool na, .slice ao la ca, .slice po lp cp]] X fun e w' => e = .returned (.bool false) ∧ Below X.heap.size X w' := fun X => qzero_any na ao po la ca lp cp X false (by simp; omega)
            have ha0 : a ≠ 0 := fun e => by
              subst e
              have := hA.num.row.hlen
              exact hz0 (this.trans len_zero)
            have hSz : Sz a 2 := ⟨by rw [← hA.num.row.hlen]; exact hla, by rw [← hA.den.hlen]; exact hlp⟩
            have HA : Hid (RatAt W na ao la ca po lp cp a ∧ Sz a 2 ∧ a ≠ 0 ∧ TabAt 0 Lib.deBruijn64tab W ∧ Pow10 W) := ⟨hA, hSz, ha0, tab_later HT.out.1 hbW, HT.out.2.later hbW⟩
            have hPow : ∀ (n : Int), -12 ≤ n → n ≤ 12 → ∀ X, Below W.heap.size W X → Calls Tryz.prog 8 #[.agg #[.bool na, .slice ao la ca, .slice po lp cp], .int .i64 n] X fun e w' => NewRatErr X w' e (a ^ n) := fun n g1 g2 X h => pow_at na ao po la ca lp cp n a X (HA.out.1.later h) HA.out.2.2.1 HA.out.2.1 (by omega) (tab_later HA.out.2.2.2.1 h)
            obtain ⟨N13, hN13⟩ : ∃ q, N.tdiv 13 = q := ⟨_, rfl⟩
            have hNb : -9223372036854775808 ≤ N13 ∧ N13 ≤ 9223372036854775807 := by
              rw [← hN13]
              rcases Int.le_total 0 N with h | h
              · rw [Int.tdiv_eq_ediv_of_nonneg h]; omega
              · rw [show N = -(-N) by omega, Int.neg_tdiv, Int.tdiv_eq_ediv_of_nonneg (by omega)]; omega
            obtain ⟨hNl, hNu⟩ := hNb
            clear hz0 hA ea ed ha0 hSz HX
            go_wp2_with (first
              | (go_at_call 4; rw [← hT.eq]; refine (hLong _).mono ?_; rintro e w1 ⟨rfl, hb1⟩; obtain ⟨q0, q1, q2, q3, q4, q5, q6⟩ := hT.p.later hb1 (by omega))
              | (go_at_call 5; refine (hMay _ hb1).mono ?_; rintro e w2 ⟨rfl, hb2'⟩; have hb2 := bnext hb1 hb2'; clear hb2'; clear q0 q1 q2 q3 q4 q5 q6; obtain ⟨q0, q1, q2, q3, q4, q5, q6⟩ := hT.p.later hb2 (by omega))
              | (go_at_call 6; refine (hZero _).mono ?_; rintro e w3 ⟨rfl, hb3'⟩; have hb3 := bnext hb2 hb3'; clear hb3'; clear q0 q1 q2 q3 q4 q5 q6; obtain ⟨q0, q1, q2, q3, q4, q5, q6⟩ := hT.p.later hb3 (by omega))
              | (go_at_call 7; have _t := HI; refine (within_any N13 13 w3 hNl hNu (by decide) (by decide)).mono ?_; rintro e w5 ⟨m0, hm0, rfl, hw5⟩; replace hw5 := hw5.symm; subst hw5; obtain ⟨j, hj⟩ : ∃ j : Int, (m0 : Int) - 6 = j := ⟨_, rfl⟩; have hj1 : -6 ≤ j := (by omega); have hj2 : j ≤ 6 := (by omega); obtain ⟨ij, hij⟩ : ∃ ij : Int, i + j = ij := ⟨_, rfl⟩; have hij1 : -12 ≤ ij := (by omega); have hij2 : ij ≤ 12 := (by omega); have HMU : Hid (a ^ i * a ^ j = a ^ ij) := (by show _ = _; rw [← hij]; exact (Rat.zpow_add HA.out.2.2.1 i j).symm); have HSZ : Hid (Sz (a ^ i) 1000 ∧ Sz (a ^ j) 1000 ∧ Sz (a ^ ij) 50) := ⟨(sz_zpow HA.out.2.1 HA.out.2.2.1 (by omega)).mono (by decide), (sz_zpow HA.out.2.1 HA.out.2.2.1 (by omega)).mono (by decide), (sz_zpow HA.out.2.1 HA.out.2.2.1 (by omega)).mono (by decide)⟩; have HL3 : Hid (∀ (X : World) (n : Bool) (o : Option Addr) (l c : Nat) (p : Option Addr) (m d : Nat), RatAt X n o l c p m d (a ^ ij) → l ≤ 1000 ∧ m ≤ 1000) := (fun X n o l c p m d h => (by have := h.len HSZ.out.2.2; omega)); obtain ⟨tx, htx⟩ : ∃ tx, strOfNums (rnums (a ^ ij)) = tx := ⟨_, rfl⟩; have HTX : Hid (strOfNums (rnums (a ^ ij)) = tx) := htx; clear htx)
              | (go_at_call 7; refine (within_any N 13 w3 hn1 hn2 (by decide) (by decide)).mono ?_; rintro e w4 ⟨n0, hn0, rfl, hw4⟩; replace hw4 := hw4.symm; subst hw4; obtain ⟨i, hi⟩ : ∃ i : Int, (n0 : Int) - 6 = i := ⟨_, rfl⟩; have hi1 : -6 ≤ i := (by omega); have hi2 : i ≤ 6 := (by omega); have HI : Hid True := trivial)
              | (go_at_call 8; have _t := HA2; refine (hPow ij hij1 hij2 _ HA2.out.2.1).mono ?_; rintro e y3 ⟨n3, o3, l3, c3, p3, m3, d3, rfl, hs, ho, hp, _, hb⟩; have HB3 : Hid (RVar y3 y1.heap.size n1 o1 l1 c1 p1 m1 d1 (a ^ i) ∧ RVar y3 y2.heap.size n2 o2 l2 c2 p2 m2 d2 (a ^ j) ∧ RatAt y3 n3 o3 l3 c3 p3 m3 d3 (a ^ ij) ∧ Below W.heap.size W y3) := ⟨(HB2.out.1.later HA2.out.2.2).later hb, HA2.out.1.later hb, ⟨ho.int hs, hp.row⟩, bnext HA2.out.2.1 hb⟩; clear hs ho hp hb; clear q0 q1 q2 q3 q4 q5 q6; have HA3 := RVar.new HB3.out.2.2.2 HB3.out.2.2.1; obtain ⟨s0, s1, s2⟩ := HB3.out.1.box; obtain ⟨t0, t1, t2⟩ := HB3.out.2.1.box; have hz31 := HB3.out.1.lt; have hz32 := HB3.out.2.1.lt)
              | (go_at_call 8; have _t := HA1; refine (hPow j (by omega) (by omega) _ HA1.out.2.1).mono ?_; rintro e y2 ⟨n2, o2, l2, c2, p2, m2, d2, rfl, hs, ho, hp, _, hb⟩; have HB2 : Hid (RVar y2 y1.heap.size n1 o1 l1 c1 p1 m1 d1 (a ^ i) ∧ RatAt y2 n2 o2 l2 c2 p2 m2 d2 (a ^ j) ∧ Below W.heap.size W y2) := ⟨HA1.out.1.later hb, ⟨ho.int hs, hp.row⟩, bnext HA1.out.2.1 hb⟩; clear hs ho hp hb; have HA2 := RVar.new HB2.out.2.2 HB2.out.2.1; clear q0 q1 q2 q3 q4 q5 q6; obtain ⟨q0, q1, q2, q3, q4, q5, q6⟩ := hT.p.later HB2.out.2.2 (by omega); have hz2 : wr.heap.size < y2.heap.size := (by have := HB2.out.2.2.size; omega))
              | (go_at_call 8; refine (hPow i (by omega) (by omega) _ hb3).mono ?_; rintro e y1 ⟨n1, o1, l1, c1, p1, m1, d1, rfl, hs, ho, hp, _, hb⟩; have HB1 : Hid (RatAt y1 n1 o1 l1 c1 p1 m1 d1 (a ^ i) ∧ Below W.heap.size W y1) := ⟨⟨ho.int hs, hp.row⟩, bnext hb3 hb⟩; clear hs ho hp hb; have HA1 := RVar.new HB1.out.2 HB1.out.1; clear q0 q1 q2 q3 q4 q5 q6; obtain ⟨q0, q1, q2, q3, q4, q5, q6⟩ := hT.p.later HB1.out.2 (by omega); have hz1 : wr.heap.size < y1.heap.size := (by have := HB1.out.2.size; omega))
              | (go_at_call 9; refine (mul_rat n1 n2 o1 p1 o2 p2 l1 c1 m1 d1 l2 c2 m2 d2 (a ^ i) (a ^ j) _ (HB3.out.1.later HA3.out.2.2).rat (HB3.out.2.1.later HA3.out.2.2).rat HSZ.out.1 HSZ.out.2.1 (tab_later HA.out.2.2.2.1 HA3.out.2.1)).mono ?_; rw [HMU.out]; rintro e y4 ⟨n4, o4, l4, c4, p4, m4, d4, rfl, hs, ho, hp, _, hb⟩; have HB4 : Hid (RVar y4 y3.heap.size n3 o3 l3 c3 p3 m3 d3 (a ^ ij) ∧ RatAt y4 n4 o4 l4 c4 p4 m4 d4 (a ^ ij) ∧ Below W.heap.size W y4) := ⟨HA3.out.1.later hb, ⟨ho.int hs, hp.row⟩, bnext HA3.out.2.1 hb⟩; clear hs ho hp hb s0 s1 s2 t0 t1 t2; have HA4 := RVar.new HB4.out.2.2 HB4.out.2.1; obtain ⟨s0, s1, s2⟩ := HB4.out.1.box; have hz4 := HB4.out.1.lt)
              | (go_at_call 11; refine (ratText_any n3 o3 p3 l3 c3 m3 d3 (a ^ ij) _ (HB4.out.1.later HA4.out.2.2).rat (HL3.out _ _ _ _ _ _ _ _ HB4.out.1.rat).1 (HL3.out _ _ _ _ _ _ _ _ HB4.out.1.rat).2 (tab_later HA.out.2.2.2.1 HA4.out.2.1) (HA.out.2.2.2.2.later HA4.out.2.1)).mono ?_; rw [HTX.out]; rintro e y5 ⟨rfl, hb⟩; have HB5 : Hid (RVar y5 y3.heap.size n3 o3 l3 c3 p3 m3 d3 (a ^ ij) ∧ RVar y5 y4.heap.size n4 o4 l4 c4 p4 m4 d4 (a ^ ij) ∧ Below W.heap.size W y5) := ⟨(HB4.out.1.later HA4.out.2.2).later hb, HA4.out.1.later hb, bnext HA4.out.2.1 hb⟩; clear hb s0 s1 s2)
              | (go_at_call 10; refine (parse_text HSZ.out.2.2 tx _ HTX.out.symm (tab_later HA.out.2.2.2.1 HB5.out.2.2)).mono ?_; rintro e y6 ⟨n6, o6, l6, c6, p6, m6, d6, rfl, hr6, hb⟩; have HB6 : Hid (RVar y6 y3.heap.size n3 o3 l3 c3 p3 m3 d3 (a ^ ij) ∧ RVar y6 y4.heap.size n4 o4 l4 c4 p4 m4 d4 (a ^ ij) ∧ RatAt y6 n6 o6 l6 c6 p6 m6 d6 (a ^ ij) ∧ Below W.heap.size W y6) := ⟨HB5.out.1.later hb, HB5.out.2.1.later hb, hr6, bnext HB5.out.2.2 hb⟩; clear hb hr6; have HA6 := RVar.new HB6.out.2.2.2 HB6.out.2.2.1; obtain ⟨s0, s1, s2⟩ := HB6.out.1.box; obtain ⟨t0, t1, t2⟩ := HB6.out.2.1.box; have hz63 := HB6.out.1.lt; have hz64 := HB6.out.2.1.lt)
              | (go_at_call 12; refine (num2_any 0 _).mono ?_; rintro e xn ⟨rfl, hxn⟩; replace hxn := hxn.symm; subst hxn)
              | (go_at_call 13; have _t := HE1; refine (eqrat_same n6 n3 o6 p6 o3 p3 l6 c6 m6 d6 l3 c3 m3 d3 (a ^ ij) _ (HA6.out.1.later HE1.out.1).rat ((HB6.out.1.later HA6.out.2.2).later HE1.out.1).rat (Nat.le_trans (HL3.out _ _ _ _ _ _ _ _ HB6.out.2.2.1).1 (by decide)) (Nat.le_trans (HL3.out _ _ _ _ _ _ _ _ HB6.out.2.2.1).2 (by decide))).mono ?_; rintro e x2 ⟨rfl, hb⟩; have HE2 : Hid (Below W.heap.size W x2) := bnext HE1.out.2 hb; clear hb)
              | (go_at_call 13; refine (eqrat_same n4 n3 o4 p4 o3 p3 l4 c4 m4 d4 l3 c3 m3 d3 (a ^ ij) _ (HB6.out.2.1.later HA6.out.2.2).rat (HB6.out.1.later HA6.out.2.2).rat (Nat.le_trans (HL3.out _ _ _ _ _ _ _ _ HB6.out.2.1.rat).1 (by decide)) (Nat.le_trans (HL3.out _ _ _ _ _ _ _ _ HB6.out.2.1.rat).2 (by decide))).mono ?_; rintro e x1 ⟨rfl, hb⟩; have HE1 : Hid (Below (y6.alloc (.cells #[.bool n6, .slice o6 l6 c6, .slice p6 m6 d6] 28)).heap.size (y6.alloc (.cells #[.bool n6, .slice o6 l6 c6, .slice p6 m6 d6] 28)) x1 ∧ Below W.heap.size W x1) := ⟨hb, bnext HA6.out.2.1 hb⟩; clear hb s0 s1 s2 t0 t1 t2; obtain ⟨s0, s1, s2⟩ := ((HB6.out.1.later HA6.out.2.2).later HE1.out.1).box; obtain ⟨t0, t1, t2⟩ := (HA6.out.1.later HE1.out.1).box))
            go_roundw
            case rel => exact ⟨k + 1, by omega, by omega, by go_num, bnext hbW HE2.out⟩
            case measure => simp [intOf]; omega
    · have hwk : ∀ X, Below w.heap.size w X → Calls Tryz.prog 14 #[] X fun e w' => e = .returned (.bool true) ∧ Below X.heap.size X w' := fun X h => wakes2_any X (tab_later HT.out.1 h) (HT.out.2.later h)
      have hend : ¬ k < len ∨ k = 30 := by omega
      clear hlt
      rcases hend with he | he
      · as_aux_lemma =>
        go_wp2_with (go_at_call 14; refine (hwk _ hbel).mono ?_; rintro e w9 ⟨rfl, hb9⟩)
        go_ret
        exact ⟨rfl, bnext hbel hb9⟩
      · subst he
        by_cases hq : 30 < len
        · as_aux_lemma =>
          go_wp2_with (go_at_call 14; refine (hwk _ hbel).mono ?_; rintro e w9 ⟨rfl, hb9⟩)
          go_ret
          exact ⟨rfl, bnext hbel hb9⟩
        · as_aux_lemma =>
          go_wp2_with (go_at_call 14; refine (hwk _ hbel).mono ?_; rintro e w9 ⟨rfl, hb9⟩)
          go_ret
          exact ⟨rfl, bnext hbel hb9⟩
end Go.Proofs.YtljmbnbilmghhabGreatDoor
