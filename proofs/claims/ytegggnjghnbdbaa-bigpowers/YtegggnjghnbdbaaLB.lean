/-
  The walk of BigPowers.
-/
import Derived.Test.YtegggnjghnbdbaaLB0
import Derived.Deep.DeepCutAuto
namespace Go.Proofs.Ytegggnjghnbdbaa
open Go.RowKit
set_option linter.unusedVariables false
set_option linter.unusedSimpArgs false

set_option maxRecDepth 100000 in
set_option maxHeartbeats 20000000 in
theorem bigPowers_any (lo : Option Addr) (len cap : Nat) (w : World) (hE : ElemsAt w lo len) (hl : len ≤ 9223372036854775807) :
    Calls Try.prog 4 #[.slice lo len cap] w fun e w' => e = .returned (.bool true) ∧ Below w.heap.size w w' := by
  go_enter Try.func4, Try.ntmps4
  go_wp2
  go_loopw [3] (fun i wr => ∃ k : Nat, k ≤ len ∧ k ≤ 40 ∧ i = .int .i64 k ∧ Below w.heap.size w wr) (fun i _ => 40 - (intOf i).toNat)
  case atStart => exact ⟨0, Nat.zero_le _, by omega, rfl, Below.refl _ _⟩
  case round =>
    obtain ⟨k, hk, hk40, rfl, hbel⟩ := hrel
    by_cases hlt : k < len ∧ k < 40
    · obtain ⟨hlt, hlt40⟩ := hlt
      obtain ⟨b, off, rfl, hbw, hel⟩ := hE k hlt
      obtain ⟨na, nb, ao, bo, la, ca, lb, cb, N, x, y, ⟨h0, h1, h2, h3, h4⟩, hx, wx, hy, wy, hn1, hn2⟩ := hel.later hbel hbw
      obtain ⟨W, hT⟩ := In5.mk' wr na nb ao bo la ca lb cb N
      have hsz := hT.size
      have hbW : Below w.heap.size w W := bnext hbel hT.below
      have hwW := hbW.size
      have HX : Hid (RowAt W .u64 ao la ca x ∧ Wd 18446744073709551616 x ∧ RowAt W .u64 bo lb cb y ∧ Wd 18446744073709551616 y) := ⟨hx.later hT.below, wx, hy.later hT.below, wy⟩
      clear hx hy wx wy
      have hLA : ∀ c, decide ((3 : Int) < (la : Int)) = c → ∀ W', Calls Try.prog 17 #[.agg #[.bool na, .slice ao la ca], .int .i64 3] W' fun e w' => e = .returned (.bool c) ∧ Below W'.heap.size W' w' := fun c hc W' => (long_any na ao la ca 3 W').mono fun e w' h => by rw [hc] at h; exact h
      have hLB : ∀ c, decide ((3 : Int) < (lb : Int)) = c → ∀ W', Calls Try.prog 17 #[.agg #[.bool nb, .slice bo lb cb], .int .i64 3] W' fun e w' => e = .returned (.bool c) ∧ Below W'.heap.size W' w' := fun c hc W' => (long_any nb bo lb cb 3 W').mono fun e w' h => by rw [hc] at h; exact h
      by_cases h3a : 3 < la
      · as_aux_lemma =>
        have hLA' := hLA true (decide_eq_true (by omega))
        clear hLA hLB
        go_wp2_with (go_at_call 17; rw [← hT.eq]; refine (hLA' _).mono ?_; rintro e w1 ⟨rfl, hb1⟩)
        go_roundw
        case rel => exact ⟨k + 1, by omega, by omega, by go_num, bnext hbW hb1⟩
        case measure => simp [intOf]; omega
      · have hLA' := hLA false (decide_eq_false (by omega))
        by_cases h3b : 3 < lb
        · as_aux_lemma =>
          have hLB' := hLB true (decide_eq_true (by omega))
          clear hLA hLB
          go_wp2_with (first
            | (go_at_call 17; rw [← hT.eq]; refine (hLA' _).mono ?_; rintro e w1 ⟨rfl, hb1⟩; obtain ⟨q0, q1, q2, q3, q4⟩ := hT.p.later hb1 (by omega))
            | (go_at_call 17; refine (hLB' _).mono ?_; rintro e w2 ⟨rfl, hb2⟩))
          go_roundw
          case rel => exact ⟨k + 1, by omega, by omega, by go_num, bnext hbW (bnext hb1 hb2)⟩
          case measure => simp [intOf]; omega
        · have hLB' := hLB false (decide_eq_false (by omega))
          clear hLA hLB
          cases hm : mayB na x
          · as_aux_lemma =>
            have HM : Hid (mayB na x = false) := hm
            clear hm
            go_wp2_with (first
              | (go_at_call 17; rw [← hT.eq]; refine (hLA' _).mono ?_; rintro e w1 ⟨rfl, hb1⟩; obtain ⟨q0, q1, q2, q3, q4⟩ := hT.p.later hb1 (by omega))
              | (go_at_call 17; refine (hLB' _).mono ?_; rintro e w2 ⟨rfl, hb2⟩; clear q0 q1 q2 q3 q4; obtain ⟨q0, q1, q2, q3, q4⟩ := hT.p.later (bnext hb1 hb2) (by omega))
              | (go_at_call 6; refine (may_at na ao la ca x _ (HX.out.1.later (bnext hb1 hb2)) (by omega) false HM.out).mono ?_; rintro e w3 ⟨rfl, hb3⟩))
            go_roundw
            case rel => exact ⟨k + 1, by omega, by omega, by go_num, bnext hbW (bnext hb1 (bnext hb2 hb3))⟩
            case measure => simp [intOf]; omega
          · have HM : Hid (mayB na x = true) := hm
            obtain ⟨v, hIv, hxv⟩ := int_of_may HX.out.1 HX.out.2.1 hm
            clear hm hxv
            cases hm2 : mayB nb y
            · as_aux_lemma =>
              have HM2 : Hid (mayB nb y = false) := hm2
              clear hm2 hIv
              go_wp2_with (first
                | (go_at_call 17; rw [← hT.eq]; refine (hLA' _).mono ?_; rintro e w1 ⟨rfl, hb1⟩; obtain ⟨q0, q1, q2, q3, q4⟩ := hT.p.later hb1 (by omega))
                | (go_at_call 17; refine (hLB' _).mono ?_; rintro e w2 ⟨rfl, hb2⟩; clear q0 q1 q2 q3 q4; obtain ⟨q0, q1, q2, q3, q4⟩ := hT.p.later (bnext hb1 hb2) (by omega))
                | (go_at_call 6; have _t := hb3; refine (may_at nb bo lb cb y _ (HX.out.2.2.1.later (bnext (bnext hb1 hb2) hb3)) (by omega) false HM2.out).mono ?_; rintro e w4 ⟨rfl, hb4⟩)
                | (go_at_call 6; refine (may_at na ao la ca x _ (HX.out.1.later (bnext hb1 hb2)) (by omega) true HM.out).mono ?_; rintro e w3 ⟨rfl, hb3⟩; clear q0 q1 q2 q3 q4; obtain ⟨q0, q1, q2, q3, q4⟩ := hT.p.later (bnext (bnext hb1 hb2) hb3) (by omega)))
              go_roundw
              case rel => exact ⟨k + 1, by omega, by omega, by go_num, bnext hbW (bnext hb1 (bnext hb2 (bnext hb3 hb4)))⟩
              case measure => simp [intOf]; omega
            · have HM2 : Hid (mayB nb y = true) := hm2
              obtain ⟨u, hIu, hyu⟩ := int_of_may HX.out.2.2.1 HX.out.2.2.2 hm2
              have HI : Hid (IntAt W na ao la ca v ∧ IntAt W nb bo lb cb u) := ⟨hIv, hIu⟩
              have hlv : Hid ((mag v.natAbs).length ≤ 3) := by show _ ≤ _; rw [← hIv.row.hlen]; omega
              have hlu : Hid ((mag u.natAbs).length ≤ 3) := by show _ ≤ _; rw [← hIu.row.hlen]; omega
              obtain ⟨N9, hN9⟩ : ∃ q, N.tdiv 9 = q := ⟨_, rfl⟩
              have hN9b : -9223372036854775808 ≤ N9 ∧ N9 ≤ 9223372036854775807 := by
                rw [← hN9]
                rcases Int.le_total 0 N with h | h
                · rw [Int.tdiv_eq_ediv_of_nonneg h]; omega
                · rw [show N = -(-N) by omega, Int.neg_tdiv, Int.tdiv_eq_ediv_of_nonneg (by omega)]; omega
              obtain ⟨hN9l, hN9u⟩ := hN9b
              clear hm2 hyu hIv hIu
              go_wp2_with (first
                | (go_at_call 17; rw [← hT.eq]; refine (hLA' _).mono ?_; rintro e w1 ⟨rfl, hb1⟩; obtain ⟨q0, q1, q2, q3, q4⟩ := hT.p.later hb1 (by omega))
                | (go_at_call 17; refine (hLB' _).mono ?_; rintro e w2 ⟨rfl, hb2⟩; clear q0 q1 q2 q3 q4; obtain ⟨q0, q1, q2, q3, q4⟩ := hT.p.later (bnext hb1 hb2) (by omega))
                | (go_at_call 6; have _t := hb3; refine (may_at nb bo lb cb y _ (HX.out.2.2.1.later (bnext (bnext hb1 hb2) hb3)) (by omega) true HM2.out).mono ?_; rintro e w4 ⟨rfl, hb4⟩; have HB4 : Hid (Below W.heap.size W w4) := bnext (bnext (bnext hb1 hb2) hb3) hb4; clear hb1 hb2 hb3 hb4 q0 q1 q2 q3 q4; obtain ⟨q0, q1, q2, q3, q4⟩ := hT.p.later HB4.out (by omega))
                | (go_at_call 6; refine (may_at na ao la ca x _ (HX.out.1.later (bnext hb1 hb2)) (by omega) true HM.out).mono ?_; rintro e w3 ⟨rfl, hb3⟩; clear q0 q1 q2 q3 q4; obtain ⟨q0, q1, q2, q3, q4⟩ := hT.p.later (bnext (bnext hb1 hb2) hb3) (by omega))
                | (go_at_call 7; have _t := hn9; refine (within_any N9 9 w4 hN9l hN9u (by decide) (by decide)).mono ?_; rintro e w6 ⟨m, hm9, rfl, hw6⟩; replace hw6 := hw6.symm; subst hw6)
                | (go_at_call 7; refine (within_any N 9 w4 hn1 hn2 (by decide) (by decide)).mono ?_; rintro e w5 ⟨n, hn9, rfl, hw5⟩; replace hw5 := hw5.symm; subst hw5)
                | (go_at_call 18; have _t := HMu; (refine (bpow_small nm aom lm cm n (v * u) ym (HMu.out.1) HMu.out.2.2.1 (by omega) HMu.out.2.2.2.1 HMu.out.2.2.2.2).mono ?_; rintro e y5 ⟨n5, ao5, l5, c5, rfl, hs5, ho5, hb5⟩; have HA5 := InVar.new (v := (v * u) ^ n) HMu.out.2.1 hs5 ho5 hb5; have hz5 : w.heap.size ≤ y5.heap.size := (by have := hb5.size; have := (HMu.out.2.1).size; omega); clear hs5 ho5 hb5; clear q0 q1 q2 q3 q4; obtain ⟨q0, q1, q2, q3, q4⟩ := hT.p.later HA5.out.2.1 (by omega)); have HV : Hid (InVar (y5.alloc (.cells #[.bool n5, .slice ao5 l5 c5] 26)) y1.heap.size n1 ao1 l1 c1 (v ^ n) ∧ InVar (y5.alloc (.cells #[.bool n5, .slice ao5 l5 c5] 26)) y2.heap.size n2 ao2 l2 c2 (v ^ m) ∧ InVar (y5.alloc (.cells #[.bool n5, .slice ao5 l5 c5] 26)) y3.heap.size n3 ao3 l3 c3 (v ^ (n + m)) ∧ InVar (y5.alloc (.cells #[.bool n5, .slice ao5 l5 c5] 26)) y4.heap.size n4 ao4 l4 c4 (u ^ n)) := ⟨(((HA1.out.1.later HA2.out.2.2).later HA3.out.2.2).later HA4.out.2.2).later (bnext HB5.out HA5.out.2.2), ((HA2.out.1.later HA3.out.2.2).later HA4.out.2.2).later (bnext HB5.out HA5.out.2.2), (HA3.out.1.later HA4.out.2.2).later (bnext HB5.out HA5.out.2.2), HA4.out.1.later (bnext HB5.out HA5.out.2.2)⟩; obtain ⟨g0, g1⟩ := HV.out.1.box; have HL1 : l1 ≤ 25 := (by rw [HA1.out.1.int.row.hlen, Int.natAbs_pow]; exact pow_len_le (K := 8) hlv.out (by omega) (Nat.le_refl _)))
                | (go_at_call 18; have _t := HA3; (refine (bpow_small nb bo lb cb n u _ (HI.out.2.later HA3.out.2.1) (by omega) (by omega) (Nat.lt_of_le_of_lt (pow_len_le (K := 8) hlu.out (by omega) (Nat.le_refl _)) (by decide)) (Nat.lt_of_le_of_lt (pow_len_le (K := 8) hlu.out (by omega) (Nat.le_refl _)) (by decide))).mono ?_; rintro e y4 ⟨n4, ao4, l4, c4, rfl, hs4, ho4, hb4⟩; have HA4 := InVar.new (v := u ^ n) HA3.out.2.1 hs4 ho4 hb4; have hz4 : w.heap.size ≤ y4.heap.size := (by have := hb4.size; have := (HA3.out.2.1).size; omega); clear hs4 ho4 hb4; clear q0 q1 q2 q3 q4; obtain ⟨q0, q1, q2, q3, q4⟩ := hT.p.later HA4.out.2.1 (by omega)))
                | (go_at_call 18; have _t := HA2; (refine (bpow_small na ao la ca (n + m) v _ (HI.out.1.later HA2.out.2.1) (by omega) (by omega) (Nat.lt_of_le_of_lt (pow_len_le (K := 8) hlv.out (by omega) (Nat.le_refl _)) (by decide)) (Nat.lt_of_le_of_lt (pow_len_le (K := 16) hlv.out (by omega) (Nat.le_refl _)) (by decide))).mono ?_; rintro e y3 ⟨n3, ao3, l3, c3, rfl, hs3, ho3, hb3⟩; have HA3 := InVar.new (v := v ^ (n + m)) HA2.out.2.1 hs3 ho3 hb3; have hz3 : w.heap.size ≤ y3.heap.size := (by have := hb3.size; have := (HA2.out.2.1).size; omega); clear hs3 ho3 hb3; clear q0 q1 q2 q3 q4; obtain ⟨q0, q1, q2, q3, q4⟩ := hT.p.later HA3.out.2.1 (by omega)))
                | (go_at_call 18; have _t := HA1; (refine (bpow_small na ao la ca m v _ (HI.out.1.later HA1.out.2.1) (by omega) (by omega) (Nat.lt_of_le_of_lt (pow_len_le (K := 8) hlv.out (by omega) (Nat.le_refl _)) (by decide)) (Nat.lt_of_le_of_lt (pow_len_le (K := 8) hlv.out (by omega) (Nat.le_refl _)) (by decide))).mono ?_; rintro e y2 ⟨n2, ao2, l2, c2, rfl, hs2, ho2, hb2⟩; have HA2 := InVar.new (v := v ^ m) HA1.out.2.1 hs2 ho2 hb2; have hz2 : w.heap.size ≤ y2.heap.size := (by have := hb2.size; have := (HA1.out.2.1).size; omega); clear hs2 ho2 hb2; clear q0 q1 q2 q3 q4; obtain ⟨q0, q1, q2, q3, q4⟩ := hT.p.later HA2.out.2.1 (by omega)))
                | (go_at_call 18; (refine (bpow_small na ao la ca n v w4 (HI.out.1.later HB4.out) (by omega) (by omega) (Nat.lt_of_le_of_lt (pow_len_le (K := 8) hlv.out (by omega) (Nat.le_refl _)) (by decide)) (Nat.lt_of_le_of_lt (pow_len_le (K := 8) hlv.out (by omega) (Nat.le_refl _)) (by decide))).mono ?_; rintro e y1 ⟨n1, ao1, l1, c1, rfl, hs1, ho1, hb1⟩; have HA1 := InVar.new (v := v ^ n) HB4.out hs1 ho1 hb1; have hz1 : w.heap.size ≤ y1.heap.size := (by have := hb1.size; have := (HB4.out).size; omega); clear hs1 ho1 hb1; clear q0 q1 q2 q3 q4; obtain ⟨q0, q1, q2, q3, q4⟩ := hT.p.later HA1.out.2.1 (by omega)))
                | (go_at_call 10; refine (lmul_small na nb ao bo la ca lb cb v u _ (HI.out.1.later HA4.out.2.1) (HI.out.2.later HA4.out.2.1) (by omega) (by omega) (by omega)).mono ?_; rintro e ym ⟨nm, aom, lm, cm, rfl, hsm, hom, hbm⟩; have HMu : Hid (IntAt ym nm aom lm cm (v * u) ∧ Below W.heap.size W ym ∧ lm < 40 ∧ (mag ((v * u).natAbs ^ (n / 2))).length < 40 ∧ (mag ((v * u).natAbs ^ n)).length < 80) := mul_facts hsm hom hbm HA4.out.2.1 hlv.out hlu.out (by omega); have HB5 : Hid (Below (y4.alloc (.cells #[.bool n4, .slice ao4 l4 c4] 26)).heap.size (y4.alloc (.cells #[.bool n4, .slice ao4 l4 c4] 26)) ym) := hbm; clear hsm hom hbm)
                | (go_at_call 20; refine (babs_nat n1 ao1 l1 c1 (v ^ n) _ HV.out.1.int (by omega)).mono ?_; rintro e ya ⟨aoa, lx, cx, rfl, hoa, hia, hlx, hba⟩; have HAb : Hid (IntAt ya false aoa lx cx ((v.natAbs ^ n : Nat) : Int) ∧ Below (y5.alloc (.cells #[.bool n5, .slice ao5 l5 c5] 26)).heap.size (y5.alloc (.cells #[.bool n5, .slice ao5 l5 c5] 26)) ya ∧ (mag (2 ^ (n + 1) * v.natAbs ^ n)).length < 40) := ⟨(by rw [← Int.natAbs_pow]; exact hia), hba, root_short hlv.out (by omega)⟩; clear hoa hia hlx hba)
                | (go_at_call 19; refine (broot_small aoa lx cx (n + 1) (v.natAbs ^ n) ya HAb.out.1 (by omega) (by omega) HAb.out.2.2).mono ?_; rintro e y6 ⟨r, hr, n6, ao6, l6, c6, rfl, hs6, ho6, hb6⟩; have HRt : Hid (IsRoot (v.natAbs ^ n) (n + 1) r) := hr; have HA6 := InVar.new (v := (r : Int)) (bnext HA5.out.2.1 HAb.out.2.1) hs6 ho6 hb6; clear hr hs6 ho6 hb6))
              have hZ0 : InVar (y6.alloc (.cells #[.bool n6, .slice ao6 l6 c6] 26)) y1.heap.size n1 ao1 l1 c1 (v ^ n) ∧ InVar (y6.alloc (.cells #[.bool n6, .slice ao6 l6 c6] 26)) y2.heap.size n2 ao2 l2 c2 (v ^ m) ∧ InVar (y6.alloc (.cells #[.bool n6, .slice ao6 l6 c6] 26)) y3.heap.size n3 ao3 l3 c3 (v ^ (n + m)) ∧ InVar (y6.alloc (.cells #[.bool n6, .slice ao6 l6 c6] 26)) y4.heap.size n4 ao4 l4 c4 (u ^ n) ∧ InVar (y6.alloc (.cells #[.bool n6, .slice ao6 l6 c6] 26)) y5.heap.size n5 ao5 l5 c5 ((v * u) ^ n) ∧ InVar (y6.alloc (.cells #[.bool n6, .slice ao6 l6 c6] 26)) y6.heap.size n6 ao6 l6 c6 ((r : Int)) ∧ Five (y6.alloc (.cells #[.bool n6, .slice ao6 l6 c6] 26)) wr.heap.size na nb ao bo la ca lb cb N ∧ Below W.heap.size W (y6.alloc (.cells #[.bool n6, .slice ao6 l6 c6] 26)) := by
                have hL := bnext HAb.out.2.1 HA6.out.2.2
                exact ⟨HV.out.1.later hL, HV.out.2.1.later hL, HV.out.2.2.1.later hL, HV.out.2.2.2.later hL, HA5.out.1.later hL, HA6.out.1, hT.p.later HA6.out.2.1 (by omega), HA6.out.2.1⟩
              clear q0 q1 q2 q3 q4 g0 g1 HV HA1 HA2 HA3 HA4 HA5 HA6 HMu HB5 HAb HB4
              revert hZ0
              generalize (y6.alloc (.cells #[.bool n6, .slice ao6 l6 c6] 26)) = Z
              rintro ⟨v1, v2, v3, v4, v5, v6, v7, v8⟩
              have HZ : Hid (IntAt Z n1 ao1 l1 c1 (v ^ n) ∧ IntAt Z n2 ao2 l2 c2 (v ^ m) ∧ IntAt Z n3 ao3 l3 c3 (v ^ (n + m)) ∧ IntAt Z n4 ao4 l4 c4 (u ^ n) ∧ IntAt Z n5 ao5 l5 c5 ((v * u) ^ n) ∧ IntAt Z n6 ao6 l6 c6 ((r : Int)) ∧ IntAt Z na ao la ca v) := ⟨v1.int, v2.int, v3.int, v4.int, v5.int, v6.int, HI.out.1.later v8⟩
              have hZW := v8.size
              have KS : Hid (∀ w' : World, Below Z.heap.size Z w' → (Below Z.heap.size Z w' ∧ w'.cell? ⟨y1.heap.size, 0, none⟩ = some (.bool n1) ∧ w'.cell? ⟨y1.heap.size, 1, none⟩ = some (.slice ao1 l1 c1) ∧ w'.cell? ⟨y2.heap.size, 0, none⟩ = some (.bool n2) ∧ w'.cell? ⟨y2.heap.size, 1, none⟩ = some (.slice ao2 l2 c2) ∧ w'.cell? ⟨y3.heap.size, 0, none⟩ = some (.bool n3) ∧ w'.cell? ⟨y3.heap.size, 1, none⟩ = some (.slice ao3 l3 c3) ∧ w'.cell? ⟨y4.heap.size, 0, none⟩ = some (.bool n4) ∧ w'.cell? ⟨y4.heap.size, 1, none⟩ = some (.slice ao4 l4 c4) ∧ w'.cell? ⟨y5.heap.size, 0, none⟩ = some (.bool n5) ∧ w'.cell? ⟨y5.heap.size, 1, none⟩ = some (.slice ao5 l5 c5) ∧ w'.cell? ⟨y6.heap.size, 0, none⟩ = some (.bool n6) ∧ w'.cell? ⟨y6.heap.size, 1, none⟩ = some (.slice ao6 l6 c6) ∧ w'.cell? ⟨wr.heap.size, 0, none⟩ = some (.bool na) ∧ w'.cell? ⟨wr.heap.size, 1, none⟩ = some (.slice ao la ca))) := fun w' h => ⟨h, (v1.box.later h v1.lt).1, (v1.box.later h v1.lt).2, (v2.box.later h v2.lt).1, (v2.box.later h v2.lt).2, (v3.box.later h v3.lt).1, (v3.box.later h v3.lt).2, (v4.box.later h v4.lt).1, (v4.box.later h v4.lt).2, (v5.box.later h v5.lt).1, (v5.box.later h v5.lt).2, (v6.box.later h v6.lt).1, (v6.box.later h v6.lt).2, (v7.later h (by omega)).1, (v7.later h (by omega)).2.1⟩
              have K1 : Hid (∀ w1 w2 : World, (Below Z.heap.size Z w1 ∧ w1.cell? ⟨y1.heap.size, 0, none⟩ = some (.bool n1) ∧ w1.cell? ⟨y1.heap.size, 1, none⟩ = some (.slice ao1 l1 c1) ∧ w1.cell? ⟨y2.heap.size, 0, none⟩ = some (.bool n2) ∧ w1.cell? ⟨y2.heap.size, 1, none⟩ = some (.slice ao2 l2 c2) ∧ w1.cell? ⟨y3.heap.size, 0, none⟩ = some (.bool n3) ∧ w1.cell? ⟨y3.heap.size, 1, none⟩ = some (.slice ao3 l3 c3) ∧ w1.cell? ⟨y4.heap.size, 0, none⟩ = some (.bool n4) ∧ w1.cell? ⟨y4.heap.size, 1, none⟩ = some (.slice ao4 l4 c4) ∧ w1.cell? ⟨y5.heap.size, 0, none⟩ = some (.bool n5) ∧ w1.cell? ⟨y5.heap.size, 1, none⟩ = some (.slice ao5 l5 c5) ∧ w1.cell? ⟨y6.heap.size, 0, none⟩ = some (.bool n6) ∧ w1.cell? ⟨y6.heap.size, 1, none⟩ = some (.slice ao6 l6 c6) ∧ w1.cell? ⟨wr.heap.size, 0, none⟩ = some (.bool na) ∧ w1.cell? ⟨wr.heap.size, 1, none⟩ = some (.slice ao la ca)) → Below w1.heap.size w1 w2 → (Below Z.heap.size Z w2 ∧ w2.cell? ⟨y1.heap.size, 0, none⟩ = some (.bool n1) ∧ w2.cell? ⟨y1.heap.size, 1, none⟩ = some (.slice ao1 l1 c1) ∧ w2.cell? ⟨y2.heap.size, 0, none⟩ = some (.bool n2) ∧ w2.cell? ⟨y2.heap.size, 1, none⟩ = some (.slice ao2 l2 c2) ∧ w2.cell? ⟨y3.heap.size, 0, none⟩ = some (.bool n3) ∧ w2.cell? ⟨y3.heap.size, 1, none⟩ = some (.slice ao3 l3 c3) ∧ w2.cell? ⟨y4.heap.size, 0, none⟩ = some (.bool n4) ∧ w2.cell? ⟨y4.heap.size, 1, none⟩ = some (.slice ao4 l4 c4) ∧ w2.cell? ⟨y5.heap.size, 0, none⟩ = some (.bool n5) ∧ w2.cell? ⟨y5.heap.size, 1, none⟩ = some (.slice ao5 l5 c5) ∧ w2.cell? ⟨y6.heap.size, 0, none⟩ = some (.bool n6) ∧ w2.cell? ⟨y6.heap.size, 1, none⟩ = some (.slice ao6 l6 c6) ∧ w2.cell? ⟨wr.heap.size, 0, none⟩ = some (.bool na) ∧ w2.cell? ⟨wr.heap.size, 1, none⟩ = some (.slice ao la ca))) := fun w1 w2 h hb => KS.out _ (bnext h.1 hb)
              have hl2 : l2 ≤ 25 := by rw [v2.int.row.hlen, Int.natAbs_pow]; exact pow_len_le (K := 8) hlv.out (by omega) (Nat.le_refl _)
              have hl4 : l4 ≤ 25 := by rw [v4.int.row.hlen, Int.natAbs_pow]; exact pow_len_le (K := 8) hlu.out (by omega) (Nat.le_refl _)
              have hl6 : l6 ≤ 25 := by
                rw [v6.int.row.hlen, Int.natAbs_natCast]
                exact Nat.le_trans (mag_len_mono (root_le HRt.out (by omega))) (pow_len_le (K := 8) hlv.out (by omega) (Nat.le_refl _))
              obtain ⟨c, hc⟩ : ∃ c, cmpI (r : Int) (v.natAbs : Int) = c := ⟨_, rfl⟩
              have hcv : 0 < c → v = 0 ∧ n = 0 := fun h => powers_case HRt.out hc h
              have HC : Hid (cmpI (r : Int) (v.natAbs : Int) = c) := hc
              clear hc v1 v2 v3 v4 v5 v6
              have HQ : Hid (decide (v ^ n * v ^ m = v ^ (n + m)) = true ∧ decide (v ^ n * u ^ n = (v * u) ^ n) = true) := ⟨decide_eq_true (Int.pow_add v n m).symm, decide_eq_true Int.mul_pow.symm⟩
              have HM0 : Hid True := trivial
              have hc3 : c = 1 ∨ c = 0 ∨ c = -1 := by rw [← HC.out]; unfold cmpI; split <;> (try split) <;> omega
              go_cut [167] (fun s167 wx => s167 = .bool false ∧ Below Z.heap.size Z wx)
              case first => as_aux_lemma =>
                go_region_held3 (fun w' => Below Z.heap.size Z w' ∧ w'.cell? ⟨y1.heap.size, 0, none⟩ = some (.bool n1) ∧ w'.cell? ⟨y1.heap.size, 1, none⟩ = some (.slice ao1 l1 c1) ∧ w'.cell? ⟨y2.heap.size, 0, none⟩ = some (.bool n2) ∧ w'.cell? ⟨y2.heap.size, 1, none⟩ = some (.slice ao2 l2 c2) ∧ w'.cell? ⟨y3.heap.size, 0, none⟩ = some (.bool n3) ∧ w'.cell? ⟨y3.heap.size, 1, none⟩ = some (.slice ao3 l3 c3) ∧ w'.cell? ⟨y4.heap.size, 0, none⟩ = some (.bool n4) ∧ w'.cell? ⟨y4.heap.size, 1, none⟩ = some (.slice ao4 l4 c4) ∧ w'.cell? ⟨y5.heap.size, 0, none⟩ = some (.bool n5) ∧ w'.cell? ⟨y5.heap.size, 1, none⟩ = some (.slice ao5 l5 c5) ∧ w'.cell? ⟨y6.heap.size, 0, none⟩ = some (.bool n6) ∧ w'.cell? ⟨y6.heap.size, 1, none⟩ = some (.slice ao6 l6 c6) ∧ w'.cell? ⟨wr.heap.size, 0, none⟩ = some (.bool na) ∧ w'.cell? ⟨wr.heap.size, 1, none⟩ = some (.slice ao la ca))
                  (first
                    | exact KS.out _ (Below.refl _ _).drew
                    | exact KS.out _ (by assumption)
                    | exact K1.out _ _ (by assumption) (by assumption)
                    | assumption)
                  (first
                    | (go_at_call 15; refine (num_any 0 _).mono ?_; rintro e xn ⟨rfl, rfl⟩)
                    | (go_at_call 10; have _t := hbE1; refine (lmul_small n1 n4 ao1 ao4 l1 c1 l4 c4 _ _ _ (HZ.out.1.later hbE1) (HZ.out.2.2.2.1.later hbE1) (by omega) (by omega) (by omega)).mono ?_; rintro e x3 ⟨nx3, aox3, lx3, cx3, rfl, hsx3, hox3, hbx3⟩; have HX3 : Hid (IntAt x3 nx3 aox3 lx3 cx3 (v ^ n * u ^ n) ∧ lx3 ≤ 100) := mul_got hsx3 hox3 HZ.out.1.row.hlen HZ.out.2.2.2.1.row.hlen (by omega) (by omega); have hbM3 : Below Z.heap.size Z x3 := bnext hbE1 hbx3; clear hsx3 hox3)
                    | (go_at_call 10; have _t := HM0; refine (lmul_small n1 n2 ao1 ao2 l1 c1 l2 c2 _ _ _ (HZ.out.1.later (Below.refl _ _).drew) (HZ.out.2.1.later (Below.refl _ _).drew) (by omega) (by omega) (by omega)).mono ?_; rintro e x1 ⟨nx1, aox1, lx1, cx1, rfl, hsx1, hox1, hbx1⟩; have HX1 : Hid (IntAt x1 nx1 aox1 lx1 cx1 (v ^ n * v ^ m) ∧ lx1 ≤ 100) := mul_got hsx1 hox1 HZ.out.1.row.hlen HZ.out.2.1.row.hlen (by omega) (by omega); have hbM1 : Below Z.heap.size Z x1 := bnext (Below.refl _ _).drew hbx1; clear hsx1 hox1 HM0)
                    | (go_at_call 11; have _t := HX3; refine (eqint_at nx3 n5 aox3 ao5 lx3 cx3 l5 c5 _ _ _ HX3.out.1 (HZ.out.2.2.2.2.1.later hbM3) (by have := HX3.out.2; omega) true HQ.out.2).mono ?_; rintro e x4 ⟨rfl, hbx4⟩; have hbE2 : Below Z.heap.size Z x4 := bnext hbM3 hbx4)
                    | (go_at_call 11; refine (eqint_at nx1 n3 aox1 ao3 lx1 cx1 l3 c3 _ _ _ HX1.out.1 (HZ.out.2.2.1.later hbM1) (by have := HX1.out.2; omega) true HQ.out.1).mono ?_; rintro e x2 ⟨rfl, hbx2⟩; have hbE1 : Below Z.heap.size Z x2 := bnext hbM1 hbx2; clear HX1)
                    | (go_at_call 20; refine (babs_nat na ao la ca v _ (HZ.out.2.2.2.2.2.2.later hbE2) (by omega)).mono ?_; rintro e x5 ⟨ao7, l7, c7, rfl, ho7, hi7, hl7, hbx5⟩; have HX5 : Hid (IntAt x5 false ao7 l7 c7 (v.natAbs : Int)) := hi7; have hbA5 : Below Z.heap.size Z x5 := bnext hbE2 hbx5; have hl7b : l7 ≤ 3 := (by omega); clear ho7 hi7 hl7)
                    | (go_at_call 21; refine (bcmp_any n6 false ao6 ao7 l6 c6 l7 c7 _ _ _ (HZ.out.2.2.2.2.2.1.later hbA5) HX5.out (by omega) (by omega) c HC.out).mono ?_; rintro e x6 ⟨rfl, hbx6⟩; have hbZ : Below Z.heap.size Z x6 := bnext hbA5 hbx6; (rcases hc3 with hc1 | hc1 | hc1); (case' inr.inl => (subst hc1; (refine Shut.use (by with_reducible assumption) (by exact KS.out _ hbZ) ?_); (intro hHeld9); (try simp only [Act.put, List.setIfInBounds_toArray, List.set_cons_zero, List.set_cons_succ]); (refine anyH_took (i := 50) (d := some 160) (v := .bool false) rfl rfl (by kernel_rfl) (by kernel_rfl) (by kernel_rfl) (fun _ _ _ h => h) (by rfl) ?_ (by assumption) ?_); (focus (intro w9 hSw9; (try dsimp only at hSw9); go_simp)); (try simp only [Act.put, List.setIfInBounds_toArray, List.set_cons_zero, List.set_cons_succ]); (refine anyH_took (i := 51) (d := some 161) (v := .bool false) rfl rfl (by kernel_rfl) (by kernel_rfl) (by kernel_rfl) (fun _ _ _ h => h) (by rfl) ?_ (by assumption) ?_); (focus (intro w9 hSw9; (try dsimp only at hSw9); go_simp)); (try simp only [Act.put, List.setIfInBounds_toArray, List.set_cons_zero, List.set_cons_succ]); (refine anyH_skip (i := 52) (d := some 162) (by kernel_rfl) rfl rfl (by rfl) (by assumption) ?_); (try simp only [Act.put, List.setIfInBounds_toArray, List.set_cons_zero, List.set_cons_succ]); (refine anyH_skip (i := 53) (d := some 163) (by kernel_rfl) rfl rfl (by rfl) (by assumption) ?_); (try simp only [Act.put, List.setIfInBounds_toArray, List.set_cons_zero, List.set_cons_succ]); (refine anyH_skip (i := 54) (d := some 164) (by kernel_rfl) rfl rfl (by rfl) (by assumption) ?_); (try simp only [Act.put, List.setIfInBounds_toArray, List.set_cons_zero, List.set_cons_succ]); (refine anyH_skip (i := 55) (d := some 165) (by kernel_rfl) rfl rfl (by rfl) (by assumption) ?_); (try simp only [Act.put, List.setIfInBounds_toArray, List.set_cons_zero, List.set_cons_succ]); (refine anyH_took (i := 56) (d := some 166) (v := .bool false) rfl rfl (by kernel_rfl) (by kernel_rfl) (by kernel_rfl) (fun _ _ _ h => h) (by rfl) ?_ (by assumption) ?_); (focus (intro w9 hSw9; (try dsimp only at hSw9); go_simp)); (try simp only [Act.put, List.setIfInBounds_toArray, List.set_cons_zero, List.set_cons_succ]); (refine anyH_took (i := 57) (d := some 167) (v := .bool false) rfl rfl (by kernel_rfl) (by kernel_rfl) (by kernel_rfl) (fun _ _ _ h => h) (by rfl) ?_ (by assumption) ?_); (focus (intro w9 hSw9; (try dsimp only at hSw9); go_simp)); (try simp only [Act.put, List.setIfInBounds_toArray, List.set_cons_zero, List.set_cons_succ]); (refine wpAnyH_done (by kernel_rfl) ?_ _); (refine NoPanic.normal ?_); go_wp2; go_meet; exact ⟨rfl, hbZ⟩)); (case' inr.inr => (subst hc1; (refine Shut.use (by with_reducible assumption) (by exact KS.out _ hbZ) ?_); (intro hHeld9); (try simp only [Act.put, List.setIfInBounds_toArray, List.set_cons_zero, List.set_cons_succ]); (refine anyH_took (i := 50) (d := some 160) (v := .bool false) rfl rfl (by kernel_rfl) (by kernel_rfl) (by kernel_rfl) (fun _ _ _ h => h) (by rfl) ?_ (by assumption) ?_); (focus (intro w9 hSw9; (try dsimp only at hSw9); go_simp)); (try simp only [Act.put, List.setIfInBounds_toArray, List.set_cons_zero, List.set_cons_succ]); (refine anyH_took (i := 51) (d := some 161) (v := .bool false) rfl rfl (by kernel_rfl) (by kernel_rfl) (by kernel_rfl) (fun _ _ _ h => h) (by rfl) ?_ (by assumption) ?_); (focus (intro w9 hSw9; (try dsimp only at hSw9); go_simp)); (try simp only [Act.put, List.setIfInBounds_toArray, List.set_cons_zero, List.set_cons_succ]); (refine anyH_skip (i := 52) (d := some 162) (by kernel_rfl) rfl rfl (by rfl) (by assumption) ?_); (try simp only [Act.put, List.setIfInBounds_toArray, List.set_cons_zero, List.set_cons_succ]); (refine anyH_skip (i := 53) (d := some 163) (by kernel_rfl) rfl rfl (by rfl) (by assumption) ?_); (try simp only [Act.put, List.setIfInBounds_toArray, List.set_cons_zero, List.set_cons_succ]); (refine anyH_skip (i := 54) (d := some 164) (by kernel_rfl) rfl rfl (by rfl) (by assumption) ?_); (try simp only [Act.put, List.setIfInBounds_toArray, List.set_cons_zero, List.set_cons_succ]); (refine anyH_skip (i := 55) (d := some 165) (by kernel_rfl) rfl rfl (by rfl) (by assumption) ?_); (try simp only [Act.put, List.setIfInBounds_toArray, List.set_cons_zero, List.set_cons_succ]); (refine anyH_took (i := 56) (d := some 166) (v := .bool false) rfl rfl (by kernel_rfl) (by kernel_rfl) (by kernel_rfl) (fun _ _ _ h => h) (by rfl) ?_ (by assumption) ?_); (focus (intro w9 hSw9; (try dsimp only at hSw9); go_simp)); (try simp only [Act.put, List.setIfInBounds_toArray, List.set_cons_zero, List.set_cons_succ]); (refine anyH_took (i := 57) (d := some 167) (v := .bool false) rfl rfl (by kernel_rfl) (by kernel_rfl) (by kernel_rfl) (fun _ _ _ h => h) (by rfl) ?_ (by assumption) ?_); (focus (intro w9 hSw9; (try dsimp only at hSw9); go_simp)); (try simp only [Act.put, List.setIfInBounds_toArray, List.set_cons_zero, List.set_cons_succ]); (refine wpAnyH_done (by kernel_rfl) ?_ _); (refine NoPanic.normal ?_); go_wp2; go_meet; exact ⟨rfl, hbZ⟩)); (have HS0 : Hid (cmpI v 0 = 0) := (by show _ = _; rw [(hcv (by rw [hc1]; decide)).1]; rfl)); clear hcv; subst hc1)
                    | (go_at_call 12; refine (bsign_any na ao la ca v _ (HZ.out.2.2.2.2.2.2.later hbZ) (by omega) 0 HS0.out).mono ?_; rintro e x8 ⟨rfl, hbx8⟩; have hbY : Below Z.heap.size Z x8 := bnext hbZ hbx8))
                go_wp2
                go_meet
                exact ⟨rfl, hbY⟩
              case rest => as_aux_lemma =>
                obtain ⟨rfl, hbZ⟩ := hcut
                have hcl := KS.out _ hbZ
                obtain ⟨_, g0, g1, _⟩ := hcl
                have hq6 := v7.later hbZ (by omega)
                obtain ⟨q0, q1, _⟩ := hq6
                clear KS K1 HC hc3 hcv
                by_cases hn0 : n = 0
                · subst hn0
                  go_wp2
                  go_roundw
                  case rel => exact ⟨k + 1, by omega, by omega, by go_num, bnext hbW (bnext v8 hbZ)⟩
                  case measure => simp [intOf]; omega
                · have hn0p : 0 < n := by omega
                  go_wp2_with (first
                    | (go_at_call 20; refine (babs_nat n1 ao1 l1 c1 (v ^ n) _ (HZ.out.1.later hbZ) (by omega)).mono ?_; rintro e x7 ⟨ao8, l8, c8, rfl, ho8, hi8, hl8, hbx7⟩; have HAb2 : Hid (IntAt x7 false ao8 l8 c8 ((v.natAbs ^ n : Nat) : Int) ∧ Below Z.heap.size Z x7 ∧ (mag (2 ^ n * v.natAbs ^ n)).length < 40) := ⟨(by rw [← Int.natAbs_pow]; exact hi8), bnext hbZ hbx7, root_short2 hlv.out (by omega) (by omega)⟩; clear ho8 hi8 hl8 hbx7)
                    | (go_at_call 19; refine (broot_small ao8 l8 c8 n (v.natAbs ^ n) x7 HAb2.out.1 (by omega) (by omega) HAb2.out.2.2).mono ?_; rintro e y7 ⟨r7, hr7, n7, ao9, l9, c9, rfl, hs9, ho9, hb9⟩; have hr8 : r7 = v.natAbs := root_unique hr7 (root_same hn0p); subst hr8; have HA7 := InVar.new (v := (v.natAbs : Int)) HAb2.out.2.1 hs9 ho9 hb9; clear hr7 hs9 ho9 hb9))
                  have hY0 : InVar (y7.alloc (.cells #[.bool n7, .slice ao9 l9 c9] 26)) y7.heap.size n7 ao9 l9 c9 (v.natAbs : Int) ∧ Below Z.heap.size Z (y7.alloc (.cells #[.bool n7, .slice ao9 l9 c9] 26)) := ⟨HA7.out.1, HA7.out.2.1⟩
                  clear HA7 HAb2 g0 g1 q0 q1
                  revert hY0
                  generalize (y7.alloc (.cells #[.bool n7, .slice ao9 l9 c9] 26)) = Y
                  rintro ⟨z1, z2⟩
                  have HY : Hid (IntAt Y n7 ao9 l9 c9 (v.natAbs : Int) ∧ IntAt Y na ao la ca v) := ⟨z1.int, HZ.out.2.2.2.2.2.2.later z2⟩
                  have z3 := v7.later z2 (by omega)
                  have hYZ := z2.size
                  have KY : Hid (∀ w' : World, Below Y.heap.size Y w' → (Below Y.heap.size Y w' ∧ w'.cell? ⟨y7.heap.size, 0, none⟩ = some (.bool n7) ∧ w'.cell? ⟨y7.heap.size, 1, none⟩ = some (.slice ao9 l9 c9) ∧ w'.cell? ⟨wr.heap.size, 0, none⟩ = some (.bool na) ∧ w'.cell? ⟨wr.heap.size, 1, none⟩ = some (.slice ao la ca))) := fun w' h => ⟨h, (z1.box.later h z1.lt).1, (z1.box.later h z1.lt).2, (z3.later h (by omega)).1, (z3.later h (by omega)).2.1⟩
                  have hl9 : l9 ≤ 3 := by rw [z1.int.row.hlen, Int.natAbs_natCast]; exact hlv.out
                  go_region_held3 (fun w' => Below Y.heap.size Y w' ∧ w'.cell? ⟨y7.heap.size, 0, none⟩ = some (.bool n7) ∧ w'.cell? ⟨y7.heap.size, 1, none⟩ = some (.slice ao9 l9 c9) ∧ w'.cell? ⟨wr.heap.size, 0, none⟩ = some (.bool na) ∧ w'.cell? ⟨wr.heap.size, 1, none⟩ = some (.slice ao la ca))
                    (first
                      | exact KY.out _ (Below.refl _ _).drew
                      | exact KY.out _ (by assumption))
                    (first
                      | (go_at_call 15; refine (num_any 0 _).mono ?_; rintro e xn ⟨rfl, rfl⟩)
                      | (go_at_call 20; refine (babs_nat na ao la ca v _ (HY.out.2.later (Below.refl _ _).drew) (by omega)).mono ?_; rintro e x9 ⟨ao10, l10, c10, rfl, ho10, hi10, hl10, hbx9⟩; have HX9 : Hid (IntAt x9 false ao10 l10 c10 (v.natAbs : Int)) := hi10; have hbY9 : Below Y.heap.size Y x9 := bnext (Below.refl _ _).drew hbx9; clear ho10 hi10 hl10)
                      | (go_at_call 11; refine (eqint_at n7 false ao9 ao10 l9 c9 l10 c10 _ _ _ (HY.out.1.later hbY9) HX9.out (by omega) true (decide_eq_true rfl)).mono ?_; rintro e x10 ⟨rfl, hbx10⟩; have hbY10 : Below Y.heap.size Y x10 := bnext hbY9 hbx10))
                  go_wp2
                  go_roundw
                  case rel => exact ⟨k + 1, by omega, by omega, by go_num, bnext hbW (bnext v8 (bnext z2 hbY10))⟩
                  case measure => simp [intOf]; omega
    · as_aux_lemma =>
      have hend : ¬ k < len ∨ k = 40 := by omega
      rcases hend with he | he
      · go_wp2_with (go_at_call 16; refine (wakes_any _).mono ?_; rintro e w1 ⟨rfl, hb1⟩)
        go_ret
        exact ⟨rfl, bnext hbel hb1⟩
      · subst he
        by_cases hq : 40 < len
        · go_wp2_with (go_at_call 16; refine (wakes_any _).mono ?_; rintro e w1 ⟨rfl, hb1⟩)
          go_ret
          exact ⟨rfl, bnext hbel hb1⟩
        · go_wp2_with (go_at_call 16; refine (wakes_any _).mono ?_; rintro e w1 ⟨rfl, hb1⟩)
          go_ret
          exact ⟨rfl, bnext hbel hb1⟩
end Go.Proofs.Ytegggnjghnbdbaa
