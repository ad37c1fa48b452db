/-
  The walk of BoundTwice.
-/
import Derived.Test.YtnodcfeimiimbaaJL
import Derived.Deep.DeepCutAuto
namespace Go.Proofs.Ytnodcfeimiimbaa
open Go.RowKit
set_option linter.unusedVariables false
set_option linter.unusedSimpArgs false

set_option maxRecDepth 100000 in
set_option maxHeartbeats 20000000 in
theorem boundTwice_any (lo : Option Addr) (len cap : Nat) (w : World) (hE : MovesAt w lo len) (hl : len ≤ 9223372036854775807) :
    Calls Try.prog 3 #[.slice lo len cap] w fun e w' => e = .returned (.bool true) ∧ Below w.heap.size w w' := by
  have HE : Hid (MovesAt w lo len) := hE
  clear hE
  go_enter Try.func3, Try.ntmps3
  go_wp2
  go_loopw [3] (fun i wr => ∃ k : Nat, k ≤ 12 ∧ i = .int .i64 k ∧ Below w.heap.size w wr) (fun i _ => 12 - (intOf i).toNat)
  case atStart => exact ⟨0, by omega, rfl, Below.refl _ _⟩
  case round =>
    obtain ⟨k, hk, rfl, hbel⟩ := hrel
    by_cases hlt : k + 1 < len ∧ k < 12
    · obtain ⟨hlt, hk12⟩ := hlt
      obtain ⟨b, off, rfl, hbw, hel⟩ := HE.out k (by omega)
      obtain ⟨b', off', he, hbw', hel2⟩ := HE.out (k + 1) hlt
      cases he
      obtain ⟨po, co, pl, pc, lc, cc, nc, K, rs, x, ⟨h0, h1, h2, h3⟩, hp, hpc, hx, wx, hK1, hK2⟩ := hel.later hbel hbw
      obtain ⟨so, c2o, sl, sc, c2l, c2c, nd2, K2, rs2, x2, ⟨g0, g1, g2, g3⟩, hs, hsc, _, _, _⟩ := hel2.later hbel hbw
      have hbs : b < wr.heap.size := Nat.lt_of_lt_of_le hbw hbel.size
      have hbn : b ≠ wr.heap.size := by omega
      have z1 : (k : Int) + 1 < (len : Int) := by omega
      have z2 : (k : Int) < (len : Int) := by omega
      have z3 : (k : Int) < 12 := by omega
      have z4 : (0 : Int) ≤ (k : Int) := by omega
      have hpl : pl ≤ 9223372036854775807 := Nat.le_trans hp.hcap hpc
      have hsl : sl ≤ 9223372036854775807 := Nat.le_trans hs.hcap hsc
      obtain ⟨W, hW⟩ : ∃ W, W = wr.alloc (.cells #[.slice po pl pc, .bool nc, .slice co lc cc, .int .i64 K] 30) := ⟨_, rfl⟩
      have HW : Hid (Below wr.heap.size wr W ∧ wr.heap.size < W.heap.size) := by rw [hW]; exact ⟨(Below.refl _ _).alloc (Nat.le_refl _) _, by simp⟩
      have KS : Hid (∀ w' : World, Below W.heap.size W w' → w'.cell? ⟨wr.heap.size, 0, none⟩ = some (.slice po pl pc) ∧ w'.cell? ⟨wr.heap.size, 1, none⟩ = some (.bool nc) ∧ w'.cell? ⟨wr.heap.size, 2, none⟩ = some (.slice co lc cc) ∧ w'.cell? ⟨wr.heap.size, 3, none⟩ = some (.int .i64 K) ∧ w'.cell? ⟨b, off + (k + 1) * 4, none⟩ = some (.slice so sl sc) ∧ w'.cell? ⟨b, off + (k + 1) * 4 + 1, none⟩ = some (.bool nd2) ∧ w'.cell? ⟨b, off + (k + 1) * 4 + 2, none⟩ = some (.slice c2o c2l c2c) ∧ w'.cell? ⟨b, off + (k + 1) * 4 + 3, none⟩ = some (.int .i64 K2)) := by
        intro w' hb
        have hb2 := bnext HW.out.1 hb
        refine ⟨?_, ?_, ?_, ?_, (hb2.cell (p := ⟨b, off + (k + 1) * 4, none⟩) hbs).trans g0, (hb2.cell (p := ⟨b, off + (k + 1) * 4 + 1, none⟩) hbs).trans g1, (hb2.cell (p := ⟨b, off + (k + 1) * 4 + 2, none⟩) hbs).trans g2, (hb2.cell (p := ⟨b, off + (k + 1) * 4 + 3, none⟩) hbs).trans g3⟩
        · refine (hb.cell (p := ⟨wr.heap.size, 0, none⟩) HW.out.2).trans ?_; rw [hW]; simp [go_sem]
        · refine (hb.cell (p := ⟨wr.heap.size, 1, none⟩) HW.out.2).trans ?_; rw [hW]; simp [go_sem]
        · refine (hb.cell (p := ⟨wr.heap.size, 2, none⟩) HW.out.2).trans ?_; rw [hW]; simp [go_sem]
        · refine (hb.cell (p := ⟨wr.heap.size, 3, none⟩) HW.out.2).trans ?_; rw [hW]; simp [go_sem]
      have hbW : Below w.heap.size w W := bnext hbel HW.out.1
      have HRP : Hid (RawsAt W po pl pc rs ∧ RawsAt W so sl sc rs2 ∧ RowAt W .u64 co lc cc x ∧ Wd 18446744073709551616 x) := ⟨hp.later HW.out.1, hs.later HW.out.1, hx.later HW.out.1, wx⟩
      clear hp hs hx wx hel hel2
      have S0 : Step 0 := step 0
      cases hc1 : (heavyB 9 3 pl rs || decide (3 < (lc : Int)))
      · have HC1 : Hid ((heavyB 9 3 pl rs || decide (3 < (lc : Int))) = false) := hc1
        have HH1 : Hid (pl ≤ 10 ∧ (∀ r ∈ rs, r.2.length ≤ 3) ∧ lc ≤ 3) := by
          rw [Bool.or_eq_false_iff] at hc1
          have h1 := heavyB_false hc1.1
          exact ⟨h1.1, h1.2, by have := of_decide_eq_false hc1.2; omega⟩
        have hpl10 : pl ≤ 10 := HH1.out.1
        have hlc3 : lc ≤ 3 := HH1.out.2.2
        replace HH1 : Hid (pl ≤ 10 ∧ ∀ r ∈ rs, r.2.length ≤ 3) := ⟨HH1.out.1, HH1.out.2.1⟩
        clear hc1
        cases hc2 : (heavyB 9 3 sl rs2 || decide (3 < (c2l : Int)))
        · have HC2 : Hid ((heavyB 9 3 sl rs2 || decide (3 < (c2l : Int))) = false) := hc2
          have HH2 : Hid (sl ≤ 10 ∧ (∀ r ∈ rs2, r.2.length ≤ 3)) := by
            rw [Bool.or_eq_false_iff] at hc2
            exact heavyB_false hc2.1
          have hsl10 : sl ≤ 10 := HH2.out.1
          clear hc2
          cases hc3 : pmayB pl rs
          · as_aux_lemma =>
            have HC3 : Hid (pmayB pl rs = false) := hc3
            clear hc3
            go_wp2_with (first
              | (have _t := S0; clear S0 _t; go_at_call 4; rw [← hW]; clear hW; refine (heavy6_any po pl pc rs nc co lc cc K W HRP.out.1 hpl false HC1.out).mono ?_; rintro e w1 ⟨rfl, hb1⟩; have hB1 : Below W.heap.size W w1 := hb1; obtain ⟨q1_0, q1_1, q1_2, q1_3, q1_4, q1_5, q1_6, q1_7⟩ := KS.out _ hB1; have S1 : Step 1 := step 1)
              | (have _t := S1; clear S1 _t; go_at_call 4; refine (heavy6_any so sl sc rs2 nd2 c2o c2l c2c K2 w1 (HRP.out.2.1.later hB1) hsl false HC2.out).mono ?_; rintro e w2 ⟨rfl, hb2⟩; have hB2 : Below W.heap.size W w2 := bnext hB1 hb2; clear q1_0 q1_1 q1_2 q1_3 q1_4 q1_5 q1_6 q1_7; obtain ⟨q2_0, q2_1, q2_2, q2_3, q2_4, q2_5, q2_6, q2_7⟩ := KS.out _ hB2; have S2 : Step 2 := step 2)
              | (have _t := S2; clear S2 _t; go_at_call 5; refine (pmay_any po pl pc rs w2 (HRP.out.1.later hB2) (by omega) (fun r hr => by have := HH1.out.2 r hr; omega) false HC3.out).mono ?_; rintro e w3 ⟨rfl, hb3⟩; have hB3 : Below W.heap.size W w3 := bnext hB2 hb3; clear q2_0 q2_1 q2_2 q2_3 q2_4 q2_5 q2_6 q2_7; obtain ⟨q3_0, q3_1, q3_2, q3_3, q3_4, q3_5, q3_6, q3_7⟩ := KS.out _ hB3; have S3 : Step 3 := step 3))
            go_roundw
            case rel => exact ⟨k + 1, by omega, by go_num, bnext hbW hB3⟩
            case measure => simp [intOf]; omega
          · have HC3 : Hid (pmayB pl rs = true) := hc3
            clear hc3
            cases hc4 : mayB nc x
            · as_aux_lemma =>
              have HC4 : Hid (mayB nc x = false) := hc4
              clear hc4
              go_wp2_with (first
                | (have _t := S0; clear S0 _t; go_at_call 4; rw [← hW]; clear hW; refine (heavy6_any po pl pc rs nc co lc cc K W HRP.out.1 hpl false HC1.out).mono ?_; rintro e w1 ⟨rfl, hb1⟩; have hB1 : Below W.heap.size W w1 := hb1; obtain ⟨q1_0, q1_1, q1_2, q1_3, q1_4, q1_5, q1_6, q1_7⟩ := KS.out _ hB1; have S1 : Step 1 := step 1)
                | (have _t := S1; clear S1 _t; go_at_call 4; refine (heavy6_any so sl sc rs2 nd2 c2o c2l c2c K2 w1 (HRP.out.2.1.later hB1) hsl false HC2.out).mono ?_; rintro e w2 ⟨rfl, hb2⟩; have hB2 : Below W.heap.size W w2 := bnext hB1 hb2; clear q1_0 q1_1 q1_2 q1_3 q1_4 q1_5 q1_6 q1_7; obtain ⟨q2_0, q2_1, q2_2, q2_3, q2_4, q2_5, q2_6, q2_7⟩ := KS.out _ hB2; have S2 : Step 2 := step 2)
                | (have _t := S2; clear S2 _t; go_at_call 5; refine (pmay_any po pl pc rs w2 (HRP.out.1.later hB2) (by omega) (fun r hr => by have := HH1.out.2 r hr; omega) true HC3.out).mono ?_; rintro e w3 ⟨rfl, hb3⟩; have hB3 : Below W.heap.size W w3 := bnext hB2 hb3; clear q2_0 q2_1 q2_2 q2_3 q2_4 q2_5 q2_6 q2_7; obtain ⟨q3_0, q3_1, q3_2, q3_3, q3_4, q3_5, q3_6, q3_7⟩ := KS.out _ hB3; have S3 : Step 3 := step 3)
                | (have _t := S3; clear S3 _t; go_at_call 6; refine (may_at nc co lc cc x w3 (HRP.out.2.2.1.later hB3) (by omega) false HC4.out).mono ?_; rintro e w4 ⟨rfl, hb4⟩; have hB4 : Below W.heap.size W w4 := bnext hB3 hb4; clear q3_0 q3_1 q3_2 q3_3 q3_4 q3_5 q3_6 q3_7; obtain ⟨q4_0, q4_1, q4_2, q4_3, q4_4, q4_5, q4_6, q4_7⟩ := KS.out _ hB4; have S4 : Step 4 := step 4))
              go_roundw
              case rel => exact ⟨k + 1, by omega, by go_num, bnext hbW hB4⟩
              case measure => simp [intOf]; omega
            · have HC4 : Hid (mayB nc x = true) := hc4
              clear hc4
              cases hc5 : pmayB sl rs2
              · as_aux_lemma =>
                have HC5 : Hid (pmayB sl rs2 = false) := hc5
                clear hc5
                go_wp2_with (first
                  | (have _t := S0; clear S0 _t; go_at_call 4; rw [← hW]; clear hW; refine (heavy6_any po pl pc rs nc co lc cc K W HRP.out.1 hpl false HC1.out).mono ?_; rintro e w1 ⟨rfl, hb1⟩; have hB1 : Below W.heap.size W w1 := hb1; obtain ⟨q1_0, q1_1, q1_2, q1_3, q1_4, q1_5, q1_6, q1_7⟩ := KS.out _ hB1; have S1 : Step 1 := step 1)
                  | (have _t := S1; clear S1 _t; go_at_call 4; refine (heavy6_any so sl sc rs2 nd2 c2o c2l c2c K2 w1 (HRP.out.2.1.later hB1) hsl false HC2.out).mono ?_; rintro e w2 ⟨rfl, hb2⟩; have hB2 : Below W.heap.size W w2 := bnext hB1 hb2; clear q1_0 q1_1 q1_2 q1_3 q1_4 q1_5 q1_6 q1_7; obtain ⟨q2_0, q2_1, q2_2, q2_3, q2_4, q2_5, q2_6, q2_7⟩ := KS.out _ hB2; have S2 : Step 2 := step 2)
                  | (have _t := S2; clear S2 _t; go_at_call 5; refine (pmay_any po pl pc rs w2 (HRP.out.1.later hB2) (by omega) (fun r hr => by have := HH1.out.2 r hr; omega) true HC3.out).mono ?_; rintro e w3 ⟨rfl, hb3⟩; have hB3 : Below W.heap.size W w3 := bnext hB2 hb3; clear q2_0 q2_1 q2_2 q2_3 q2_4 q2_5 q2_6 q2_7; obtain ⟨q3_0, q3_1, q3_2, q3_3, q3_4, q3_5, q3_6, q3_7⟩ := KS.out _ hB3; have S3 : Step 3 := step 3)
                  | (have _t := S3; clear S3 _t; go_at_call 6; refine (may_at nc co lc cc x w3 (HRP.out.2.2.1.later hB3) (by omega) true HC4.out).mono ?_; rintro e w4 ⟨rfl, hb4⟩; have hB4 : Below W.heap.size W w4 := bnext hB3 hb4; clear q3_0 q3_1 q3_2 q3_3 q3_4 q3_5 q3_6 q3_7; obtain ⟨q4_0, q4_1, q4_2, q4_3, q4_4, q4_5, q4_6, q4_7⟩ := KS.out _ hB4; have S4 : Step 4 := step 4)
                  | (have _t := S4; clear S4 _t; go_at_call 5; refine (pmay_any so sl sc rs2 w4 (HRP.out.2.1.later hB4) (by omega) (fun r hr => by have := HH2.out.2 r hr; omega) false HC5.out).mono ?_; rintro e w5 ⟨rfl, hb5⟩; have hB5 : Below W.heap.size W w5 := bnext hB4 hb5; clear q4_0 q4_1 q4_2 q4_3 q4_4 q4_5 q4_6 q4_7; obtain ⟨q5_0, q5_1, q5_2, q5_3, q5_4, q5_5, q5_6, q5_7⟩ := KS.out _ hB5; have S5 : Step 5 := step 5))
                go_roundw
                case rel => exact ⟨k + 1, by omega, by go_num, bnext hbW hB5⟩
                case measure => simp [intOf]; omega
              · have HC5 : Hid (pmayB sl rs2 = true) := hc5
                clear hc5
                by_cases hsum : 11 < sl + pl
                · as_aux_lemma =>
                  have hsumI : (11 : Int) < (sl : Int) + (pl : Int) := by omega
                  go_wp2_with (first
                    | (have _t := S0; clear S0 _t; go_at_call 4; rw [← hW]; clear hW; refine (heavy6_any po pl pc rs nc co lc cc K W HRP.out.1 hpl false HC1.out).mono ?_; rintro e w1 ⟨rfl, hb1⟩; have hB1 : Below W.heap.size W w1 := hb1; obtain ⟨q1_0, q1_1, q1_2, q1_3, q1_4, q1_5, q1_6, q1_7⟩ := KS.out _ hB1; have S1 : Step 1 := step 1)
                    | (have _t := S1; clear S1 _t; go_at_call 4; refine (heavy6_any so sl sc rs2 nd2 c2o c2l c2c K2 w1 (HRP.out.2.1.later hB1) hsl false HC2.out).mono ?_; rintro e w2 ⟨rfl, hb2⟩; have hB2 : Below W.heap.size W w2 := bnext hB1 hb2; clear q1_0 q1_1 q1_2 q1_3 q1_4 q1_5 q1_6 q1_7; obtain ⟨q2_0, q2_1, q2_2, q2_3, q2_4, q2_5, q2_6, q2_7⟩ := KS.out _ hB2; have S2 : Step 2 := step 2)
                    | (have _t := S2; clear S2 _t; go_at_call 5; refine (pmay_any po pl pc rs w2 (HRP.out.1.later hB2) (by omega) (fun r hr => by have := HH1.out.2 r hr; omega) true HC3.out).mono ?_; rintro e w3 ⟨rfl, hb3⟩; have hB3 : Below W.heap.size W w3 := bnext hB2 hb3; clear q2_0 q2_1 q2_2 q2_3 q2_4 q2_5 q2_6 q2_7; obtain ⟨q3_0, q3_1, q3_2, q3_3, q3_4, q3_5, q3_6, q3_7⟩ := KS.out _ hB3; have S3 : Step 3 := step 3)
                    | (have _t := S3; clear S3 _t; go_at_call 6; refine (may_at nc co lc cc x w3 (HRP.out.2.2.1.later hB3) (by omega) true HC4.out).mono ?_; rintro e w4 ⟨rfl, hb4⟩; have hB4 : Below W.heap.size W w4 := bnext hB3 hb4; clear q3_0 q3_1 q3_2 q3_3 q3_4 q3_5 q3_6 q3_7; obtain ⟨q4_0, q4_1, q4_2, q4_3, q4_4, q4_5, q4_6, q4_7⟩ := KS.out _ hB4; have S4 : Step 4 := step 4)
                    | (have _t := S4; clear S4 _t; go_at_call 5; refine (pmay_any so sl sc rs2 w4 (HRP.out.2.1.later hB4) (by omega) (fun r hr => by have := HH2.out.2 r hr; omega) true HC5.out).mono ?_; rintro e w5 ⟨rfl, hb5⟩; have hB5 : Below W.heap.size W w5 := bnext hB4 hb5; clear q4_0 q4_1 q4_2 q4_3 q4_4 q4_5 q4_6 q4_7; obtain ⟨q5_0, q5_1, q5_2, q5_3, q5_4, q5_5, q5_6, q5_7⟩ := KS.out _ hB5; have S5 : Step 5 := step 5))
                  go_roundw
                  case rel => exact ⟨k + 1, by omega, by go_num, bnext hbW hB5⟩
                  case measure => simp [intOf]; omega
                · have hsumI : ¬ (11 : Int) < (sl : Int) + (pl : Int) := by omega
                  obtain ⟨p, hpA, hpL, hpD⟩ := poly_of_raws HRP.out.1 HC3.out HH1.out.2
                  obtain ⟨s, hsA, hsL, hsD⟩ := poly_of_raws HRP.out.2.1 HC5.out HH2.out.2
                  obtain ⟨cv, hcI, _⟩ := int_of_may HRP.out.2.2.1 HRP.out.2.2.2 HC4.out
                  have HP : Hid (PolyAt W po pl pc p ∧ PolyAt W so sl sc s ∧ IntAt W nc co lc cc cv) := ⟨hpA, hsA, hcI⟩
                  have HLL : Hid (pl = p.length ∧ sl = s.length) := ⟨hpA.hlen, hsA.hlen⟩
                  have HF0 : Hid (∀ dv, lim dv ≤ 1 → TwiceF p s cv dv) := fun dv hd => twiceF hpL hpD hsL hsD (by rw [← hcI.lim]; exact hlc3) hd (by rw [← hpA.hlen]; exact hpl10) (by rw [← hsA.hlen]; exact hsl10) (by rw [← hpA.hlen, ← hsA.hlen]; omega)
                  clear hpA hpL hpD hsA hsL hsD hcI
                  go_wp2_with (first
                    | (have _t := S0; clear S0 _t; go_at_call 4; rw [← hW]; clear hW; refine (heavy6_any po pl pc rs nc co lc cc K W HRP.out.1 hpl false HC1.out).mono ?_; rintro e w1 ⟨rfl, hb1⟩; have hB1 : Below W.heap.size W w1 := hb1; obtain ⟨q1_0, q1_1, q1_2, q1_3, q1_4, q1_5, q1_6, q1_7⟩ := KS.out _ hB1; have S1 : Step 1 := step 1)
                    | (have _t := S1; clear S1 _t; go_at_call 4; refine (heavy6_any so sl sc rs2 nd2 c2o c2l c2c K2 w1 (HRP.out.2.1.later hB1) hsl false HC2.out).mono ?_; rintro e w2 ⟨rfl, hb2⟩; have hB2 : Below W.heap.size W w2 := bnext hB1 hb2; clear q1_0 q1_1 q1_2 q1_3 q1_4 q1_5 q1_6 q1_7; obtain ⟨q2_0, q2_1, q2_2, q2_3, q2_4, q2_5, q2_6, q2_7⟩ := KS.out _ hB2; have S2 : Step 2 := step 2)
                    | (have _t := S2; clear S2 _t; go_at_call 5; refine (pmay_any po pl pc rs w2 (HRP.out.1.later hB2) (by omega) (fun r hr => by have := HH1.out.2 r hr; omega) true HC3.out).mono ?_; rintro e w3 ⟨rfl, hb3⟩; have hB3 : Below W.heap.size W w3 := bnext hB2 hb3; clear q2_0 q2_1 q2_2 q2_3 q2_4 q2_5 q2_6 q2_7; obtain ⟨q3_0, q3_1, q3_2, q3_3, q3_4, q3_5, q3_6, q3_7⟩ := KS.out _ hB3; have S3 : Step 3 := step 3)
                    | (have _t := S3; clear S3 _t; go_at_call 6; refine (may_at nc co lc cc x w3 (HRP.out.2.2.1.later hB3) (by omega) true HC4.out).mono ?_; rintro e w4 ⟨rfl, hb4⟩; have hB4 : Below W.heap.size W w4 := bnext hB3 hb4; clear q3_0 q3_1 q3_2 q3_3 q3_4 q3_5 q3_6 q3_7; obtain ⟨q4_0, q4_1, q4_2, q4_3, q4_4, q4_5, q4_6, q4_7⟩ := KS.out _ hB4; have S4 : Step 4 := step 4)
                    | (have _t := S4; clear S4 _t; go_at_call 5; refine (pmay_any so sl sc rs2 w4 (HRP.out.2.1.later hB4) (by omega) (fun r hr => by have := HH2.out.2 r hr; omega) true HC5.out).mono ?_; rintro e w5 ⟨rfl, hb5⟩; have hB5 : Below W.heap.size W w5 := bnext hB4 hb5; clear q4_0 q4_1 q4_2 q4_3 q4_4 q4_5 q4_6 q4_7; obtain ⟨q5_0, q5_1, q5_2, q5_3, q5_4, q5_5, q5_6, q5_7⟩ := KS.out _ hB5; have S5 : Step 5 := step 5)
                    | (have _t := S5; clear S5 _t; go_at_call 8; refine (within_any K 9 w5 hK1 hK2 (by decide) (by decide)).mono ?_; rintro e w6 ⟨k9, hk9, rfl, hw6⟩; replace hw6 := hw6.symm; subst hw6; have S6 : Step 6 := step 6)
                    | (have _t := S6; clear S6 _t; go_at_call 7; refine (rfrom_any ((k9 : Int) - 4) w5 (by omega) (by omega)).mono ?_; rintro e y1 ⟨nd, od, ld, cd, rfl, hsd, hod, hbd⟩; obtain ⟨dv, hdv⟩ : ∃ dv : Int, (k9 : Int) - 4 = dv := ⟨_, rfl⟩; have hdl : lim dv ≤ 1 := (by rw [← hdv]; exact lim_small (by omega)); rw [hdv] at hsd hod; have HZ : Hid (Below W.heap.size W (y1.alloc (.cells #[.bool nd, .slice od ld cd] 28)) ∧ Boxed (y1.alloc (.cells #[.bool nd, .slice od ld cd] 28)) y1.heap.size nd od ld cd ∧ IntAt (y1.alloc (.cells #[.bool nd, .slice od ld cd] 28)) nd od ld cd dv ∧ y1.heap.size < (y1.alloc (.cells #[.bool nd, .slice od ld cd] 28)).heap.size) := ⟨below_alloc (bnext hB5 hbd) (Nat.le_refl _), ⟨by simp [go_sem], by simp [go_sem]⟩, (hod.int hsd).later ((Below.refl _ _).alloc (Nat.le_refl _) _), by simp⟩; have TF : TwiceF p s cv dv := HF0.out dv hdl; have HTF : Hid (TwiceF p s cv dv) := TF; have hld : ld ≤ 1 := (by rw [(hod.int hsd).lim]; exact hdl); clear hsd hod hdv hdl TF HF0 q5_0 q5_1 q5_2 q5_3 q5_4 q5_5 q5_6 q5_7; obtain ⟨q7_0, q7_1, q7_2, q7_3, q7_4, q7_5, q7_6, q7_7⟩ := KS.out _ HZ.out.1; obtain ⟨d7_0, d7_1⟩ := HZ.out.2.1; have S7 : Step 7 := step 7)
                    | (have _t := S7; clear S7 _t; go_at_call 9; refine (bshift_ok po pl pc p nc co lc cc cv _ (HP.out.1.later HZ.out.1) (by omega) HTF.out.leads.1 (HP.out.2.2.later HZ.out.1) HTF.out.a).mono ?_; rintro e w8 ⟨aO, aL, rfl, hA, hb8⟩; have HA : Hid (PolyAt w8 aO aL aL (sh cv p) ∧ Boxed w8 y1.heap.size nd od ld cd ∧ IntAt w8 nd od ld cd dv ∧ y1.heap.size < w8.heap.size) := ⟨hA, HZ.out.2.1.later hb8 HZ.out.2.2.2, HZ.out.2.2.1.later hb8, Nat.lt_of_lt_of_le HZ.out.2.2.2 hb8.size⟩; have hB8 : Below W.heap.size W w8 := bnext HZ.out.1 hb8; have haL : aL ≤ 10 := (by rw [hA.hlen, sh_len, ← HLL.out.1]; exact hpl10); have haP : ¬ (pl : Int) < (aL : Int) := (by rw [hA.hlen, sh_len, ← HLL.out.1]; omega); clear hA hb8 d7_0 d7_1 HZ q7_0 q7_1 q7_2 q7_3 q7_4 q7_5 q7_6 q7_7; obtain ⟨q8_0, q8_1, q8_2, q8_3, q8_4, q8_5, q8_6, q8_7⟩ := KS.out _ hB8; obtain ⟨d8_0, d8_1⟩ := HA.out.2.1; have S8 : Step 8 := step 8)
                    | (have _t := S8; clear S8 _t; go_at_call 9; refine (bshift_ok aO aL aL (sh cv p) nd od ld cd dv w8 HA.out.1 (by omega) HTF.out.leads.2.2.1 HA.out.2.2.1 HTF.out.b).mono ?_; rintro e w9 ⟨bO, bL, rfl, hB, hb9⟩; rw [HTF.out.bc] at hB; have HB : Hid (PolyAt w9 bO bL bL (sh (cv + dv) p) ∧ PolyAt w9 aO aL aL (sh cv p) ∧ Boxed w9 y1.heap.size nd od ld cd ∧ IntAt w9 nd od ld cd dv ∧ y1.heap.size < w9.heap.size) := ⟨hB, HA.out.1.later hb9, HA.out.2.1.later hb9 HA.out.2.2.2, HA.out.2.2.1.later hb9, Nat.lt_of_lt_of_le HA.out.2.2.2 hb9.size⟩; have hB9 : Below W.heap.size W w9 := bnext hB8 hb9; have hbL : bL ≤ 10 := (by rw [hB.hlen, sh_len, ← HLL.out.1]; exact hpl10); clear hB hb9 d8_0 d8_1 HA q8_0 q8_1 q8_2 q8_3 q8_4 q8_5 q8_6 q8_7; obtain ⟨q9_0, q9_1, q9_2, q9_3, q9_4, q9_5, q9_6, q9_7⟩ := KS.out _ hB9; obtain ⟨d9_0, d9_1⟩ := HB.out.2.2.1; have S9 : Step 9 := step 9))
                  have KS9 : Hid (∀ w' : World, Below w9.heap.size w9 w' → Below w9.heap.size w9 w' ∧ w'.cell? ⟨wr.heap.size, 0, none⟩ = some (.slice po pl pc) ∧ w'.cell? ⟨wr.heap.size, 1, none⟩ = some (.bool nc) ∧ w'.cell? ⟨wr.heap.size, 2, none⟩ = some (.slice co lc cc) ∧ w'.cell? ⟨y1.heap.size, 0, none⟩ = some (.bool nd) ∧ w'.cell? ⟨y1.heap.size, 1, none⟩ = some (.slice od ld cd)) := fun w' hb => by
                    obtain ⟨t0, t1, t2, _⟩ := KS.out _ (bnext hB9 hb)
                    obtain ⟨t3, t4⟩ := HB.out.2.2.1.later hb HB.out.2.2.2.2
                    exact ⟨hb, t0, t1, t2, t3, t4⟩
                  clear d9_0 d9_1 q9_0 q9_1 q9_2 q9_3 q9_4 q9_5 q9_6 q9_7
                  go_region_held3 (fun w' => Below w9.heap.size w9 w' ∧ w'.cell? ⟨wr.heap.size, 0, none⟩ = some (.slice po pl pc) ∧ w'.cell? ⟨wr.heap.size, 1, none⟩ = some (.bool nc) ∧ w'.cell? ⟨wr.heap.size, 2, none⟩ = some (.slice co lc cc) ∧ w'.cell? ⟨y1.heap.size, 0, none⟩ = some (.bool nd) ∧ w'.cell? ⟨y1.heap.size, 1, none⟩ = some (.slice od ld cd))
                    (first
                      | exact KS9.out _ (Below.refl _ _).drew
                      | exact KS9.out _ (by assumption))
                    (first
                      | (go_at_call 10; refine (rplus_any nc nd co od lc cc ld cd cv dv _ (HP.out.2.2.later (bnext hB9 (Below.refl _ _).drew)) (HB.out.2.2.2.1.later (Below.refl _ _).drew) (by omega) (by omega)).mono ?_; rintro e w10 ⟨n6, o6, l6, c6, rfl, hi6, hb10'⟩; have hb10 : Below w9.heap.size w9 w10 := bnext (Below.refl _ _).drew hb10'; clear hb10')
                      | (go_at_call 9; refine (bshift_ok po pl pc p n6 o6 l6 c6 (cv + dv) w10 (HP.out.1.later (bnext hB9 hb10)) (by omega) HTF.out.leads.1 hi6 HTF.out.c).mono ?_; rintro e w11 ⟨cO, cL, rfl, hC, hb11'⟩; have hb11 : Below w9.heap.size w9 w11 := bnext hb10 hb11'; have HCC : Hid (PolyAt w11 cO cL cL (sh (cv + dv) p) ∧ PolyAt w11 bO bL bL (sh (cv + dv) p) ∧ PolyAt w11 aO aL aL (sh cv p)) := ⟨hC, HB.out.1.later hb11, HB.out.2.1.later hb11⟩; have hB11 : Below W.heap.size W w11 := bnext hB9 hb11; clear hC hb11' hi6))
                  clear hb10 hb11 KS9 HB
                  obtain ⟨q11_0, q11_1, q11_2, q11_3, q11_4, q11_5, q11_6, q11_7⟩ := KS.out _ hB11
                  go_wp2_with (first
                    | (have _t := S9; clear S9 _t; go_at_call 11; refine (bmirror_ok po pl pc p w11 (HP.out.1.later hB11) (by omega) HTF.out.leads.1 HTF.out.lims.2.2.1).mono ?_; rintro e w12 ⟨mO, mL, rfl, hM, hb12⟩; have HM : Hid (PolyAt w12 mO mL mL (mir p.length p)) := hM; have hB12 : Below W.heap.size W w12 := bnext hB11 hb12; have hB11_12 : Below w11.heap.size w11 w12 := hb12; have hmL : mL ≤ 10 := (by rw [hM.hlen, mir_len, ← HLL.out.1]; exact hpl10); have hmP : ¬ (pl : Int) < (mL : Int) := (by rw [hM.hlen, mir_len, ← HLL.out.1]; omega); clear hM hb12 q11_0 q11_1 q11_2 q11_3 q11_4 q11_5 q11_6 q11_7; obtain ⟨q12_0, q12_1, q12_2, q12_3, q12_4, q12_5, q12_6, q12_7⟩ := KS.out _ hB12; have S10 : Step 10 := step 10)
                    | (have _t := S10; clear S10 _t; go_at_call 11; refine (bmirror_ok mO mL mL (mir p.length p) w12 HM.out (by omega) HTF.out.leads.2.2.2.2.2 HTF.out.lims.2.2.2).mono ?_; rintro e w13 ⟨nO, nL, rfl, hN, hb13⟩; rw [mir_len, mir_mir] at hN; have HN : Hid (PolyAt w13 nO nL nL p ∧ PolyAt w13 mO mL mL (mir p.length p)) := ⟨hN, HM.out.later hb13⟩; have hB13 : Below W.heap.size W w13 := bnext hB12 hb13; have hB11_13 : Below w11.heap.size w11 w13 := bnext hB11_12 hb13; have hnL : nL ≤ 10 := (by rw [hN.hlen, ← HLL.out.1]; exact hpl10); clear hN hb13 HM q12_0 q12_1 q12_2 q12_3 q12_4 q12_5 q12_6 q12_7; obtain ⟨q13_0, q13_1, q13_2, q13_3, q13_4, q13_5, q13_6, q13_7⟩ := KS.out _ hB13; have S11 : Step 11 := step 11)
                    | (have _t := S11; clear S11 _t; go_at_call 13; refine (eqpoly_same bO cO bL cL bL cL (sh (cv + dv) p) w13 (HCC.out.2.1.later hB11_13) (HCC.out.1.later hB11_13) (by omega) HTF.out.bl).mono ?_; rintro e w14 ⟨rfl, hb14⟩; have hB14 : Below W.heap.size W w14 := bnext hB13 hb14; clear q13_0 q13_1 q13_2 q13_3 q13_4 q13_5 q13_6 q13_7; obtain ⟨q14_0, q14_1, q14_2, q14_3, q14_4, q14_5, q14_6, q14_7⟩ := KS.out _ hB14; have S12 : Step 12 := step 12)
                    | (have _t := S12; clear S12 _t; go_at_call 13; refine (eqpoly_same nO po nL pl nL pc p w14 (HN.out.1.later hb14) (HP.out.1.later hB14) (by omega) (HTF.out.lims.1.mono (by decide))).mono ?_; rintro e w15 ⟨rfl, hb15⟩; have hB15 : Below W.heap.size W w15 := bnext hB14 hb15; clear q14_0 q14_1 q14_2 q14_3 q14_4 q14_5 q14_6 q14_7; obtain ⟨q15_0, q15_1, q15_2, q15_3, q15_4, q15_5, q15_6, q15_7⟩ := KS.out _ hB15; have S13 : Step 13 := step 13)
                    | (have _t := S13; clear S13 _t; go_at_call 5; refine (pmay_poly aO aL aL (sh cv p) w15 (HCC.out.2.2.later (bnext hB11_13 (bnext hb14 hb15))) (by omega) HTF.out.leads.2.2.1 (HTF.out.al.mono (by decide))).mono ?_; rintro e w16 ⟨rfl, hb16⟩; have hB16 : Below W.heap.size W w16 := bnext hB15 hb16; clear q15_0 q15_1 q15_2 q15_3 q15_4 q15_5 q15_6 q15_7; obtain ⟨q16_0, q16_1, q16_2, q16_3, q16_4, q16_5, q16_6, q16_7⟩ := KS.out _ hB16; have S14 : Step 14 := step 14)
                    | (have _t := S14; clear S14 _t; go_at_call 5; refine (pmay_poly mO mL mL (mir p.length p) w16 (HN.out.2.later (bnext hb14 (bnext hb15 hb16))) (by omega) HTF.out.leads.2.2.2.2.2 (HTF.out.lims.2.2.2.mono (by decide))).mono ?_; rintro e w17 ⟨rfl, hb17⟩; have hB17 : Below W.heap.size W w17 := bnext hB16 hb17; have HA17 : Hid (PolyAt w17 aO aL aL (sh cv p)) := HCC.out.2.2.later (bnext hB11_13 (bnext hb14 (bnext hb15 (bnext hb16 hb17)))); clear hb14 hb15 hb16 hb17 HCC HN q16_0 q16_1 q16_2 q16_3 q16_4 q16_5 q16_6 q16_7; obtain ⟨q17_0, q17_1, q17_2, q17_3, q17_4, q17_5, q17_6, q17_7⟩ := KS.out _ hB17; have S15 : Step 15 := step 15)
                    | (have _t := S15; clear S15 _t; go_at_call 9; refine (bshift_ok so sl sc s nc co lc cc cv w17 (HP.out.2.1.later hB17) (by omega) HTF.out.leads.2.1 (HP.out.2.2.later hB17) HTF.out.x).mono ?_; rintro e w18 ⟨xO, xL, rfl, hX, hb18⟩; have HX : Hid (PolyAt w18 xO xL xL (sh cv s) ∧ PolyAt w18 aO aL aL (sh cv p)) := ⟨hX, HA17.out.later hb18⟩; have hB18 : Below W.heap.size W w18 := bnext hB17 hb18; have hxL : xL ≤ 10 := (by rw [hX.hlen, sh_len, ← HLL.out.2]; exact hsl10); have hxS : ¬ (sl : Int) < (xL : Int) := (by rw [hX.hlen, sh_len, ← HLL.out.2]; omega); clear hX hb18 HA17 q17_0 q17_1 q17_2 q17_3 q17_4 q17_5 q17_6 q17_7; have S16 : Step 16 := step 16)
                    | (go_at_call 12; refine (num6_any 0 _).mono ?_; rintro e wn ⟨rfl, hwn⟩; replace hwn := hwn.symm; subst hwn))
                  have KS18 : Hid (∀ w' : World, Below w18.heap.size w18 w' → Below w18.heap.size w18 w' ∧ w'.cell? ⟨wr.heap.size, 0, none⟩ = some (.slice po pl pc) ∧ w'.cell? ⟨wr.heap.size, 1, none⟩ = some (.bool nc) ∧ w'.cell? ⟨wr.heap.size, 2, none⟩ = some (.slice co lc cc)) := fun w' hb => by
                    obtain ⟨t0, t1, t2, _⟩ := KS.out _ (bnext hB18 hb)
                    exact ⟨hb, t0, t1, t2⟩
                  go_region_held3 (fun w' => Below w18.heap.size w18 w' ∧ w'.cell? ⟨wr.heap.size, 0, none⟩ = some (.slice po pl pc) ∧ w'.cell? ⟨wr.heap.size, 1, none⟩ = some (.bool nc) ∧ w'.cell? ⟨wr.heap.size, 2, none⟩ = some (.slice co lc cc))
                    (first
                      | exact KS18.out _ (Below.refl _ _).drew
                      | exact KS18.out _ (by assumption))
                    (first
                      | (go_at_call 14; refine (ptimes_all po so pl pc sl sc 3 p s _ (HP.out.1.later (bnext hB18 (Below.refl _ _).drew)) (HP.out.2.1.later (bnext hB18 (Below.refl _ _).drew)) (by omega) (by omega) (by decide) HTF.out.lims.1 HTF.out.lims.2.1 HTF.out.leads.1 HTF.out.leads.2.1).mono ?_; rintro e w19 ⟨uO, uL, rfl, hU, hUl, hb19'⟩; have hb19 : Below w18.heap.size w18 w19 := bnext (Below.refl _ _).drew hb19'; have HU : Hid (PolyAt w19 uO uL uL (mulP p s) ∧ ShLim 1000000000 cv (mulP p s)) := ⟨hU, HTF.out.y hUl⟩; have huL : uL ≤ 20 := (by have h1 := hU.hlen; have h2 := mulP_len p s; have h3 := HLL.out; omega); clear hU hUl hb19')
                      | (go_at_call 9; refine (bshift_ok uO uL uL (mulP p s) nc co lc cc cv w19 HU.out.1 (by omega) HTF.out.leads.2.2.2.2.1 (HP.out.2.2.later (bnext hB18 hb19)) HU.out.2).mono ?_; rintro e w20 ⟨yO, yL, rfl, hY, hb20'⟩; have hb20 : Below w18.heap.size w18 w20 := bnext hb19 hb20'; have HY : Hid (PolyAt w20 yO yL yL (sh cv (mulP p s)) ∧ PolyAt w20 xO xL xL (sh cv s) ∧ PolyAt w20 aO aL aL (sh cv p) ∧ Lim 4611686018427387904 (sh cv (mulP p s))) := ⟨hY, HX.out.1.later hb20, HX.out.2.later hb20, HU.out.2.res.mono (by decide)⟩; have hB20 : Below W.heap.size W w20 := bnext hB18 hb20; clear hY hb20'))
                  clear hb19 hb20 KS18 HX HU
                  obtain ⟨q20_0, q20_1, q20_2, q20_3, q20_4, q20_5, q20_6, q20_7⟩ := KS.out _ hB20
                  by_cases hp0 : pl = 0
                  · as_aux_lemma =>
                    have hp0' : ¬ (0 : Int) < (pl : Int) := by omega
                    clear hp0
                    go_wp2_with (first
                      | (have _t := S16; clear S16 _t; go_at_call 5; refine (pmay_poly xO xL xL (sh cv s) w20 HY.out.2.1 (by omega) HTF.out.leads.2.2.2.1 (HTF.out.xl.mono (by decide))).mono ?_; rintro e w21 ⟨rfl, hb21⟩; have hB21 : Below W.heap.size W w21 := bnext hB20 hb21; clear q20_0 q20_1 q20_2 q20_3 q20_4 q20_5 q20_6 q20_7; obtain ⟨q21_0, q21_1, q21_2, q21_3, q21_4, q21_5, q21_6, q21_7⟩ := KS.out _ hB21; have S17 : Step 17 := step 17)
                      | (have _t := S17; clear S17 _t; go_at_call 14; refine (ptimes_all aO xO aL aL xL xL 7168 (sh cv p) (sh cv s) w21 (HY.out.2.2.1.later hb21) (HY.out.2.1.later hb21) (by omega) (by omega) (by decide) HTF.out.al HTF.out.xl HTF.out.leads.2.2.1 HTF.out.leads.2.2.2.1).mono ?_; rintro e w22 ⟨vO, vL, rfl, hV, _, hb22⟩; rw [sh_mulP] at hV; have HV : Hid (PolyAt w22 vO vL vL (sh cv (mulP p s))) := hV; have hB22 : Below W.heap.size W w22 := bnext hB21 hb22; have hvL : vL ≤ 30 := (by have h1 := hV.hlen; rw [sh_len] at h1; have h2 := mulP_len p s; have h3 := HLL.out; omega); clear hV q21_0 q21_1 q21_2 q21_3 q21_4 q21_5 q21_6 q21_7; obtain ⟨q22_0, q22_1, q22_2, q22_3, q22_4, q22_5, q22_6, q22_7⟩ := KS.out _ hB22; have S18 : Step 18 := step 18)
                      | (have _t := S18; clear S18 _t; go_at_call 13; refine (eqpoly_same vO yO vL yL vL yL (sh cv (mulP p s)) w22 HV.out (HY.out.1.later (bnext hb21 hb22)) (by omega) HY.out.2.2.2).mono ?_; rintro e w23 ⟨rfl, hb23⟩; have hB23 : Below W.heap.size W w23 := bnext hB22 hb23; clear hb21 hb22 hb23 q22_0 q22_1 q22_2 q22_3 q22_4 q22_5 q22_6 q22_7; obtain ⟨q23_0, q23_1, q23_2, q23_3, q23_4, q23_5, q23_6, q23_7⟩ := KS.out _ hB23; have S19 : Step 19 := step 19)
                      | (have _t := S19; clear S19 _t; go_at_call 15; refine (bturn_ok po pl pc p w23 (HP.out.1.later hB23) (by omega) hpc HTF.out.leads.1 HTF.out.lims.2.2.1).mono ?_; rintro e w24 ⟨tq, hTq, tO, tL, rfl, hQ, hb24⟩; have HQ : Hid (PolyAt w24 tO tL tL tq ∧ TurnOf p tq) := ⟨hQ, hTq⟩; have hB24 : Below W.heap.size W w24 := bnext hB23 hb24; have htL : tL ≤ 10 := (by have h1 := hQ.hlen; have h2 := hTq.len; have h3 := HLL.out.1; omega); clear hQ hTq hb24 q23_0 q23_1 q23_2 q23_3 q23_4 q23_5 q23_6 q23_7; obtain ⟨q24_0, q24_1, q24_2, q24_3, q24_4, q24_5, q24_6, q24_7⟩ := KS.out _ hB24; have S20 : Step 20 := step 20)
                      | (have _t := S20; clear S20 _t; go_at_call 15; refine (bturn_ok tO tL tL tq w24 HQ.out.1 (by omega) (by omega) HQ.out.2.lead (HQ.out.2.lim HTF.out.lims.2.2.1)).mono ?_; rintro e w25 ⟨rq, hTr, rO, rL, rfl, hRq, hb25⟩; have HRQ : Hid (PolyAt w25 rO rL rL rq ∧ TurnOf tq rq) := ⟨hRq, hTr⟩; have hB25 : Below W.heap.size W w25 := bnext hB24 hb25; have hrL : rL ≤ 10 := (by have h1 := hRq.hlen; have h2 := hTr.len; have h3 := HQ.out.1.hlen; omega); clear hRq hTr hb25 q24_0 q24_1 q24_2 q24_3 q24_4 q24_5 q24_6 q24_7; obtain ⟨q25_0, q25_1, q25_2, q25_3, q25_4, q25_5, q25_6, q25_7⟩ := KS.out _ hB25; have S21 : Step 21 := step 21)
                      | (go_at_call 12; refine (num6_any 0 _).mono ?_; rintro e wn ⟨rfl, hwn⟩; replace hwn := hwn.symm; subst hwn))
                    go_roundw
                    case rel => exact ⟨k + 1, by omega, by go_num, bnext hbW hB25⟩
                    case measure => simp [intOf]; omega
                  · have hp0' : (0 : Int) < (pl : Int) := by omega
                    obtain ⟨pb, poff, hpo, hat⟩ := HP.out.1.get (by omega)
                    obtain ⟨n0, o0, l0, c0, ⟨u0, u1⟩, hi0⟩ := hat 0 (by omega)
                    rw [Nat.zero_mul, Nat.add_zero] at u0 u1
                    have KP : Hid (∀ w' : World, Below W.heap.size W w' → w'.cell? ⟨pb, poff, none⟩ = some (.bool n0) ∧ w'.cell? ⟨pb, poff + 1, none⟩ = some (.slice o0 l0 c0)) := fun w' hb => ⟨(hb.cell (p := ⟨pb, poff, none⟩) (cell_lt u0)).trans u0, (hb.cell (p := ⟨pb, poff + 1, none⟩) (cell_lt u1)).trans u1⟩
                    have hl0 : l0 = lim (dig p 0) := hi0.lim
                    have HL0 : Hid (l0 = lim (dig p 0)) := hl0
                    subst hpo
                    clear hat u0 u1 hi0 hl0 hp0
                    by_cases hd0 : dig p 0 = 0
                    · as_aux_lemma =>
                      have hz : Hid (((l0 : Int) == 0) = true) := by show _ = _; rw [HL0.out, hd0, lim_zero]; rfl
                      clear hd0
                      go_wp2_with (first
                        | (have _t := S16; clear S16 _t; go_at_call 5; refine (pmay_poly xO xL xL (sh cv s) w20 HY.out.2.1 (by omega) HTF.out.leads.2.2.2.1 (HTF.out.xl.mono (by decide))).mono ?_; rintro e w21 ⟨rfl, hb21⟩; have hB21 : Below W.heap.size W w21 := bnext hB20 hb21; clear q20_0 q20_1 q20_2 q20_3 q20_4 q20_5 q20_6 q20_7; obtain ⟨q21_0, q21_1, q21_2, q21_3, q21_4, q21_5, q21_6, q21_7⟩ := KS.out _ hB21; have S17 : Step 17 := step 17)
                        | (have _t := S17; clear S17 _t; go_at_call 14; refine (ptimes_all aO xO aL aL xL xL 7168 (sh cv p) (sh cv s) w21 (HY.out.2.2.1.later hb21) (HY.out.2.1.later hb21) (by omega) (by omega) (by decide) HTF.out.al HTF.out.xl HTF.out.leads.2.2.1 HTF.out.leads.2.2.2.1).mono ?_; rintro e w22 ⟨vO, vL, rfl, hV, _, hb22⟩; rw [sh_mulP] at hV; have HV : Hid (PolyAt w22 vO vL vL (sh cv (mulP p s))) := hV; have hB22 : Below W.heap.size W w22 := bnext hB21 hb22; have hvL : vL ≤ 30 := (by have h1 := hV.hlen; rw [sh_len] at h1; have h2 := mulP_len p s; have h3 := HLL.out; omega); clear hV q21_0 q21_1 q21_2 q21_3 q21_4 q21_5 q21_6 q21_7; obtain ⟨q22_0, q22_1, q22_2, q22_3, q22_4, q22_5, q22_6, q22_7⟩ := KS.out _ hB22; have S18 : Step 18 := step 18)
                        | (have _t := S18; clear S18 _t; go_at_call 13; refine (eqpoly_same vO yO vL yL vL yL (sh cv (mulP p s)) w22 HV.out (HY.out.1.later (bnext hb21 hb22)) (by omega) HY.out.2.2.2).mono ?_; rintro e w23 ⟨rfl, hb23⟩; have hB23 : Below W.heap.size W w23 := bnext hB22 hb23; clear hb21 hb22 hb23 q22_0 q22_1 q22_2 q22_3 q22_4 q22_5 q22_6 q22_7; obtain ⟨q23_0, q23_1, q23_2, q23_3, q23_4, q23_5, q23_6, q23_7⟩ := KS.out _ hB23; have S19 : Step 19 := step 19)
                        | (have _t := S19; clear S19 _t; go_at_call 15; refine (bturn_ok (some ⟨pb, poff, none⟩) pl pc p w23 (HP.out.1.later hB23) (by omega) hpc HTF.out.leads.1 HTF.out.lims.2.2.1).mono ?_; rintro e w24 ⟨tq, hTq, tO, tL, rfl, hQ, hb24⟩; have HQ : Hid (PolyAt w24 tO tL tL tq ∧ TurnOf p tq) := ⟨hQ, hTq⟩; have hB24 : Below W.heap.size W w24 := bnext hB23 hb24; have htL : tL ≤ 10 := (by have h1 := hQ.hlen; have h2 := hTq.len; have h3 := HLL.out.1; omega); clear hQ hTq hb24 q23_0 q23_1 q23_2 q23_3 q23_4 q23_5 q23_6 q23_7; obtain ⟨q24_0, q24_1, q24_2, q24_3, q24_4, q24_5, q24_6, q24_7⟩ := KS.out _ hB24; have S20 : Step 20 := step 20)
                        | (have _t := S20; clear S20 _t; go_at_call 15; refine (bturn_ok tO tL tL tq w24 HQ.out.1 (by omega) (by omega) HQ.out.2.lead (HQ.out.2.lim HTF.out.lims.2.2.1)).mono ?_; rintro e w25 ⟨rq, hTr, rO, rL, rfl, hRq, hb25⟩; have HRQ : Hid (PolyAt w25 rO rL rL rq ∧ TurnOf tq rq) := ⟨hRq, hTr⟩; have hB25 : Below W.heap.size W w25 := bnext hB24 hb25; have hrL : rL ≤ 10 := (by have h1 := hRq.hlen; have h2 := hTr.len; have h3 := HQ.out.1.hlen; omega); clear hRq hTr hb25 q24_0 q24_1 q24_2 q24_3 q24_4 q24_5 q24_6 q24_7; obtain ⟨q25_0, q25_1, q25_2, q25_3, q25_4, q25_5, q25_6, q25_7⟩ := KS.out _ hB25; obtain ⟨k25_0, k25_1⟩ := KP.out _ hB25; have S21 : Step 21 := step 21)
                        | (have _t := S21; clear S21 _t; go_at_call 16; refine (rzero_any n0 o0 l0 c0 w25 true hz.out).mono ?_; rintro e w26 ⟨rfl, hb26⟩; have hB26 : Below W.heap.size W w26 := bnext hB25 hb26; clear q25_0 q25_1 q25_2 q25_3 q25_4 q25_5 q25_6 q25_7; obtain ⟨q26_0, q26_1, q26_2, q26_3, q26_4, q26_5, q26_6, q26_7⟩ := KS.out _ hB26; have S22 : Step 22 := step 22)
                        | (go_at_call 12; refine (num6_any 0 _).mono ?_; rintro e wn ⟨rfl, hwn⟩; replace hwn := hwn.symm; subst hwn))
                      go_roundw
                      case rel => exact ⟨k + 1, by omega, by go_num, bnext hbW hB26⟩
                      case measure => simp [intOf]; omega
                    · as_aux_lemma =>
                      have hz : Hid (((l0 : Int) == 0) = false) := by
                        show _ = _
                        have h1 := lim_pos hd0
                        rw [← HL0.out] at h1
                        simp; omega
                      have HD0 : Hid (dig p 0 ≠ 0) := hd0
                      clear hd0
                      go_wp2_with (first
                        | (have _t := S16; clear S16 _t; go_at_call 5; refine (pmay_poly xO xL xL (sh cv s) w20 HY.out.2.1 (by omega) HTF.out.leads.2.2.2.1 (HTF.out.xl.mono (by decide))).mono ?_; rintro e w21 ⟨rfl, hb21⟩; have hB21 : Below W.heap.size W w21 := bnext hB20 hb21; clear q20_0 q20_1 q20_2 q20_3 q20_4 q20_5 q20_6 q20_7; obtain ⟨q21_0, q21_1, q21_2, q21_3, q21_4, q21_5, q21_6, q21_7⟩ := KS.out _ hB21; have S17 : Step 17 := step 17)
                        | (have _t := S17; clear S17 _t; go_at_call 14; refine (ptimes_all aO xO aL aL xL xL 7168 (sh cv p) (sh cv s) w21 (HY.out.2.2.1.later hb21) (HY.out.2.1.later hb21) (by omega) (by omega) (by decide) HTF.out.al HTF.out.xl HTF.out.leads.2.2.1 HTF.out.leads.2.2.2.1).mono ?_; rintro e w22 ⟨vO, vL, rfl, hV, _, hb22⟩; rw [sh_mulP] at hV; have HV : Hid (PolyAt w22 vO vL vL (sh cv (mulP p s))) := hV; have hB22 : Below W.heap.size W w22 := bnext hB21 hb22; have hvL : vL ≤ 30 := (by have h1 := hV.hlen; rw [sh_len] at h1; have h2 := mulP_len p s; have h3 := HLL.out; omega); clear hV q21_0 q21_1 q21_2 q21_3 q21_4 q21_5 q21_6 q21_7; obtain ⟨q22_0, q22_1, q22_2, q22_3, q22_4, q22_5, q22_6, q22_7⟩ := KS.out _ hB22; have S18 : Step 18 := step 18)
                        | (have _t := S18; clear S18 _t; go_at_call 13; refine (eqpoly_same vO yO vL yL vL yL (sh cv (mulP p s)) w22 HV.out (HY.out.1.later (bnext hb21 hb22)) (by omega) HY.out.2.2.2).mono ?_; rintro e w23 ⟨rfl, hb23⟩; have hB23 : Below W.heap.size W w23 := bnext hB22 hb23; clear hb21 hb22 hb23 q22_0 q22_1 q22_2 q22_3 q22_4 q22_5 q22_6 q22_7; obtain ⟨q23_0, q23_1, q23_2, q23_3, q23_4, q23_5, q23_6, q23_7⟩ := KS.out _ hB23; have S19 : Step 19 := step 19)
                        | (have _t := S19; clear S19 _t; go_at_call 15; refine (bturn_ok (some ⟨pb, poff, none⟩) pl pc p w23 (HP.out.1.later hB23) (by omega) hpc HTF.out.leads.1 HTF.out.lims.2.2.1).mono ?_; rintro e w24 ⟨tq, hTq, tO, tL, rfl, hQ, hb24⟩; have HQ : Hid (PolyAt w24 tO tL tL tq ∧ TurnOf p tq) := ⟨hQ, hTq⟩; have hB24 : Below W.heap.size W w24 := bnext hB23 hb24; have htL : tL ≤ 10 := (by have h1 := hQ.hlen; have h2 := hTq.len; have h3 := HLL.out.1; omega); clear hQ hTq hb24 q23_0 q23_1 q23_2 q23_3 q23_4 q23_5 q23_6 q23_7; obtain ⟨q24_0, q24_1, q24_2, q24_3, q24_4, q24_5, q24_6, q24_7⟩ := KS.out _ hB24; have S20 : Step 20 := step 20)
                        | (have _t := S20; clear S20 _t; go_at_call 15; refine (bturn_ok tO tL tL tq w24 HQ.out.1 (by omega) (by omega) HQ.out.2.lead (HQ.out.2.lim HTF.out.lims.2.2.1)).mono ?_; rintro e w25 ⟨rq, hTr, rO, rL, rfl, hRq, hb25⟩; have HRQ : Hid (PolyAt w25 rO rL rL rq ∧ TurnOf tq rq) := ⟨hRq, hTr⟩; have hB25 : Below W.heap.size W w25 := bnext hB24 hb25; have hrL : rL ≤ 10 := (by have h1 := hRq.hlen; have h2 := hTr.len; have h3 := HQ.out.1.hlen; omega); clear hRq hTr hb25 q24_0 q24_1 q24_2 q24_3 q24_4 q24_5 q24_6 q24_7; obtain ⟨q25_0, q25_1, q25_2, q25_3, q25_4, q25_5, q25_6, q25_7⟩ := KS.out _ hB25; obtain ⟨k25_0, k25_1⟩ := KP.out _ hB25; have S21 : Step 21 := step 21)
                        | (have _t := S21; clear S21 _t; go_at_call 16; refine (rzero_any n0 o0 l0 c0 w25 false hz.out).mono ?_; rintro e w26 ⟨rfl, hb26⟩; have hB26 : Below W.heap.size W w26 := bnext hB25 hb26; clear q25_0 q25_1 q25_2 q25_3 q25_4 q25_5 q25_6 q25_7; obtain ⟨q26_0, q26_1, q26_2, q26_3, q26_4, q26_5, q26_6, q26_7⟩ := KS.out _ hB26; have S22 : Step 22 := step 22)
                        | (have _t := S22; clear S22 _t; go_at_call 13; refine (eqpoly_same rO (some ⟨pb, poff, none⟩) rL pl rL pc p w26 (by have h := HRQ.out.1.later hb26; rw [turn_turn HQ.out.2 HRQ.out.2 HD0.out HTF.out.leads.1] at h; exact h) (HP.out.1.later hB26) (by omega) (HTF.out.lims.1.mono (by decide))).mono ?_; rintro e w27 ⟨rfl, hb27⟩; have hB27 : Below W.heap.size W w27 := bnext hB26 hb27; have S23 : Step 23 := step 23)
                        | (go_at_call 12; refine (num6_any 0 _).mono ?_; rintro e wn ⟨rfl, hwn⟩; replace hwn := hwn.symm; subst hwn))
                      go_roundw
                      case rel => exact ⟨k + 1, by omega, by go_num, bnext hbW hB27⟩
                      case measure => simp [intOf]; omega
        · as_aux_lemma =>
          have HC2 : Hid ((heavyB 9 3 sl rs2 || decide (3 < (c2l : Int))) = true) := hc2
          clear hc2
          go_wp2_with (first
            | (have _t := S0; clear S0 _t; go_at_call 4; rw [← hW]; clear hW; refine (heavy6_any po pl pc rs nc co lc cc K W HRP.out.1 hpl false HC1.out).mono ?_; rintro e w1 ⟨rfl, hb1⟩; have hB1 : Below W.heap.size W w1 := hb1; obtain ⟨q1_0, q1_1, q1_2, q1_3, q1_4, q1_5, q1_6, q1_7⟩ := KS.out _ hB1; have S1 : Step 1 := step 1)
            | (have _t := S1; clear S1 _t; go_at_call 4; refine (heavy6_any so sl sc rs2 nd2 c2o c2l c2c K2 w1 (HRP.out.2.1.later hB1) hsl true HC2.out).mono ?_; rintro e w2 ⟨rfl, hb2⟩; have hB2 : Below W.heap.size W w2 := bnext hB1 hb2; clear q1_0 q1_1 q1_2 q1_3 q1_4 q1_5 q1_6 q1_7; obtain ⟨q2_0, q2_1, q2_2, q2_3, q2_4, q2_5, q2_6, q2_7⟩ := KS.out _ hB2; have S2 : Step 2 := step 2))
          go_roundw
          case rel => exact ⟨k + 1, by omega, by go_num, bnext hbW hB2⟩
          case measure => simp [intOf]; omega
      · as_aux_lemma =>
        have HC1 : Hid ((heavyB 9 3 pl rs || decide (3 < (lc : Int))) = true) := hc1
        clear hc1
        go_wp2_with (first
          | (have _t := S0; clear S0 _t; go_at_call 4; rw [← hW]; clear hW; refine (heavy6_any po pl pc rs nc co lc cc K W HRP.out.1 hpl true HC1.out).mono ?_; rintro e w1 ⟨rfl, hb1⟩; have hB1 : Below W.heap.size W w1 := hb1; obtain ⟨q1_0, q1_1, q1_2, q1_3, q1_4, q1_5, q1_6, q1_7⟩ := KS.out _ hB1; have S1 : Step 1 := step 1))
        go_roundw
        case rel => exact ⟨k + 1, by omega, by go_num, bnext hbW hB1⟩
        case measure => simp [intOf]; omega
    · have hend : ¬ k + 1 < len ∨ k = 12 := by omega
      rcases hend with he | he
      · have he' : ¬ (k : Int) + 1 < (len : Int) := by omega
        go_wp2_with (go_at_call 17; refine (wakes6_any _).mono ?_; rintro e w1 ⟨rfl, hb1⟩)
        go_ret
        exact ⟨rfl, bnext hbel hb1⟩
      · subst he
        by_cases hq : 13 < len
        · have hq' : (13 : Int) < (len : Int) := by omega
          go_wp2_with (go_at_call 17; refine (wakes6_any _).mono ?_; rintro e w1 ⟨rfl, hb1⟩)
          go_ret
          exact ⟨rfl, bnext hbel hb1⟩
        · have hq' : ¬ (13 : Int) < (len : Int) := by omega
          go_wp2_with (go_at_call 17; refine (wakes6_any _).mono ?_; rintro e w1 ⟨rfl, hb1⟩)
          go_ret
          exact ⟨rfl, bnext hbel hb1⟩
end Go.Proofs.Ytnodcfeimiimbaa
