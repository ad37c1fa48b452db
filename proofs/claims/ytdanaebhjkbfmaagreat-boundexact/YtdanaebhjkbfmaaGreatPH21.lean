/-
  BoundExact's walk.
-/
import Derived.Test.YtdanaebhjkbfmaaGreatPH16
import Derived.Test.YtdanaebhjkbfmaaGreatPH19
import Derived.Test.YtdanaebhjkbfmaaGreatPH20
namespace Go.Proofs.YtdanaebhjkbfmaaGreat
open Go.RowKit
set_option linter.unusedVariables false
set_option linter.unusedSimpArgs false
set_option maxRecDepth 100000 in
set_option maxHeartbeats 4000000 in
theorem is6_any (B : Nat) (c : Int) (ao qo : Option Addr) (l lq cq : Nat) (L : List Int) (w : World) (ha : QAns B w c ao l L) (hw : c = 0 → PolyAt w qo lq cq L) (hB : B ≤ w.heap.size) (hl : c = 0 → L.length ≤ 1000) (hM : c = 0 → Lim 100000 L) :
    Calls Tryz.prog 14 #[.slice ao l l, .int .i64 c, .int .i64 c, .slice qo lq cq] w fun e w' => e = .returned (.bool true) ∧ Below B w w' := by
  rcases ha with ⟨rfl, ho⟩ | ⟨hc, rfl, rfl⟩
  · have hp := ho.poly
    have hq := hw rfl
    replace hl := hl rfl
    replace hM := hM rfl
    obtain rfl : lq = l := by rw [hq.hlen, hp.hlen]
    have h1 : ∀ X, Below w.heap.size w X → Calls Tryz.prog 22 #[.slice ao lq lq, .slice qo lq cq] X fun e w' => e = .returned (.bool true) ∧ Below X.heap.size X w' := fun X hb => eqpoly_of (eqints_same ao qo lq lq cq L X (hp.later hb) (hq.later hb) (by rw [hp.hlen]; omega) (hM.mono (by decide)))
    have h2 : ∀ X, Below w.heap.size w X → Calls Tryz.prog 41 #[.slice ao lq lq] X fun e w' => e = .returned (.tuple #[]) ∧ Below B X w' := fun X hb => spoilPoly_any B ao lq L X (ho.later hb) (Nat.le_trans hB hb.size) (by rw [hp.hlen]; exact hl) hM
    clear ho hw hp hq hM hl
    go_enter Tryz.func14, Tryz.ntmps14
    go_wp2_with (first
      | (go_at_call 20; refine (num6_any _ _).mono ?_; rintro e w1 ⟨rfl, hw1⟩; replace hw1 := hw1.symm; subst hw1)
      | (go_at_call 22; refine (h1 _ (Below.refl _ _)).mono ?_; rintro e w2 ⟨rfl, hb2⟩)
      | (go_at_call 41; refine (h2 _ hb2).mono ?_; rintro e w3 ⟨rfl, hb3⟩))
    go_ret
    exact ⟨rfl, (hb2.mono hB).trans hb3⟩
  · have hc0 : (c != 0) = true := by simpa using hc
    clear hw hM hl hc
    go_enter Tryz.func14, Tryz.ntmps14
    go_wp2_with (go_at_call 20; refine (num6_any _ _).mono ?_; rintro e w1 ⟨rfl, hw1⟩; replace hw1 := hw1.symm; subst hw1)
    go_ret
    exact ⟨rfl, Below.refl _ _⟩
set_option maxRecDepth 100000 in
set_option maxHeartbeats 4000000 in
theorem bchanges_is (ao : Option Addr) (len cap : Nat) (rs : List (Bool × List Int)) (m : Bool) (p : List Int) (w : World) (hp : PArg w ao len cap rs m p) (c : Int) (hc : (if m then (chN p len).1 else 0) = c) :
    Calls Tryz.prog 21 #[.slice ao len cap] w fun e w' => e = .returned (.int .i64 c) ∧ Below w.heap.size w w' := by
  cases m
  · have h1 := pcheck_is ao len cap rs w hp.raws hp.len (fun t => Nat.le_trans (hp.lims t) (by decide)) 50 (by rw [hp.may]; rfl)
    obtain rfl : c = 0 := hc.symm
    clear hp hc
    go_enter Tryz.func21, Tryz.ntmps21
    go_wp2_with (go_at_call 54; refine h1.mono ?_; rintro e w1 ⟨rfl, hb1⟩)
    go_ret
    exact ⟨rfl, hb1⟩
  · exact bchanges_any ao len cap p w (hp.good rfl).1 hp.len ((hp.good rfl).2.2.mono (by decide)) (hp.good rfl).2.1 c hc
theorem bad1_two (m : Bool) : (m = true ∧ bad1 m = 0) ∨ (m = false ∧ bad1 m = 50) := by cases m <;> simp [bad1]
theorem bad1_zero {m : Bool} (h : bad1 m = 0) : m = true := by cases m; exact absurd h (by decide); rfl
theorem bad2_zero {m : Bool} {K : Int} (h : bad2 m K = 0) : m = true ∧ -64 ≤ K ∧ K ≤ 64 := by
  unfold bad2 at h
  split at h
  · split at h
    · exact absurd h (by decide)
    · rename_i h1 h2; exact ⟨h1, by omega, by omega⟩
  · exact absurd h (by decide)
theorem bad3_zero {m : Bool} {l : Nat} (h : bad3 m l = 0) : m = true ∧ 0 < l := by
  unfold bad3 at h
  split at h
  · split at h
    · exact absurd h (by decide)
    · rename_i h1 h2; exact ⟨h1, by omega⟩
  · exact absurd h (by decide)
set_option maxRecDepth 100000 in
set_option maxHeartbeats 4000000 in
theorem boundExact_any (lo : Option Addr) (len cap : Nat) (w : World) (hE : MovesAt w lo len) (hl : len ≤ 9223372036854775807) :
    Calls Tryz.prog 3 #[.slice lo len cap] w fun e w' => e = .returned (.bool true) ∧ Below w.heap.size w w' := by
  have HE : Hid (MovesAt w lo len) := hE
  clear hE
  go_enter Tryz.func3, Tryz.ntmps3
  go_wp2
  go_loopw [3] (fun i wr => ∃ k : Nat, k ≤ len ∧ i = .int .i64 (k : Int) ∧ Below w.heap.size w wr) (fun i _ => len - (intOf i).toNat)
  case atStart => exact ⟨0, Nat.zero_le _, rfl, Below.refl _ _⟩
  case round =>
    obtain ⟨k, hk, rfl, hbel⟩ := hrel
    have z0 : (0 : Int) ≤ (k : Int) := by omega
    by_cases hlt : k < len
    · have g1 : (k : Int) < (len : Int) := by omega
      by_cases h12 : k < 12
      · have g2 : (k : Int) < 12 := by omega
        obtain ⟨b, off, rfl, hblt, po, co, pl, pc, lc, cc, nc, K, rs, xs, ⟨e0, e1, e2, e3⟩, hp, hpc, hx, hwx, hK1, hK2⟩ := HE.out k hlt
        have d0 := (hbel.cell (p := ⟨b, off + k * 4, none⟩) hblt).trans e0
        have d1 := (hbel.cell (p := ⟨b, off + k * 4 + 1, none⟩) hblt).trans e1
        have d2 := (hbel.cell (p := ⟨b, off + k * 4 + 2, none⟩) hblt).trans e2
        have d3 := (hbel.cell (p := ⟨b, off + k * 4 + 3, none⟩) hblt).trans e3
        obtain ⟨X, hX⟩ : ∃ X, X = wr.alloc (.cells #[.slice po pl pc, .bool nc, .slice co lc cc, .int .i64 K] 30) := ⟨_, rfl⟩
        have HXB : Hid (Below wr.heap.size wr X ∧ (∀ V, Below X.heap.size X V → (V.cell? ⟨wr.heap.size, 0, none⟩ = some (.slice po pl pc) ∧ V.cell? ⟨wr.heap.size, 1, none⟩ = some (.bool nc) ∧ V.cell? ⟨wr.heap.size, 2, none⟩ = some (.slice co lc cc) ∧ V.cell? ⟨wr.heap.size, 3, none⟩ = some (.int .i64 K)))) := by
          rw [hX]
          exact ⟨(Below.refl _ _).alloc (Nat.le_refl _) _, fun V hb => ⟨(hb.cell (p := ⟨wr.heap.size, 0, none⟩) (by simp)).trans (by simp [go_sem]), (hb.cell (p := ⟨wr.heap.size, 1, none⟩) (by simp)).trans (by simp [go_sem]), (hb.cell (p := ⟨wr.heap.size, 2, none⟩) (by simp)).trans (by simp [go_sem]), (hb.cell (p := ⟨wr.heap.size, 3, none⟩) (by simp)).trans (by simp [go_sem])⟩⟩
        have HP0 : Hid (RawsAt X po pl pc rs ∧ RowAt X .u64 co lc cc xs ∧ Wd 18446744073709551616 xs ∧ pl ≤ 9223372036854775807) := ⟨(hp.later hbel).later HXB.out.1, (hx.later hbel).later HXB.out.1, hwx, Nat.le_trans hp.hcap hpc⟩
        clear e0 e1 e2 e3 hp hpc hx hwx hblt
        obtain ⟨hv, hhv⟩ : ∃ c, (heavyB 9 3 pl rs || decide (3 < (lc : Int))) = c := ⟨_, rfl⟩
        have HHV : Hid ((heavyB 9 3 pl rs || decide (3 < (lc : Int))) = hv) := hhv
        clear hhv
        cases hv
        rotate_left
        · go_wp2_with (go_at_call 4; rw [← hX]; clear hX; refine (heavy6_any po pl pc rs nc co lc cc K _ HP0.out.1 HP0.out.2.2.2 true HHV.out).mono ?_; rintro e x1 ⟨rfl, hb1⟩)
          go_ret
          exact ⟨rfl, bnext hbel (bnext HXB.out.1 hb1)⟩
        obtain ⟨hh1, hh2⟩ := Bool.or_eq_false_iff.1 HHV.out
        obtain ⟨hpl, hlim⟩ := heavyB_false hh1
        replace hpl : pl ≤ 10 := hpl
        have hlc : lc ≤ 3 := by have := of_decide_eq_false hh2; omega
        have HLM : Hid (∀ r ∈ rs, r.2.length ≤ 3) := hlim
        clear hh1 hh2 hlim
        obtain ⟨mP, hmP⟩ : ∃ m, pmayB pl rs = m := ⟨_, rfl⟩
        obtain ⟨mC, hmC⟩ : ∃ m, mayB nc xs = m := ⟨_, rfl⟩
        have HMM : Hid (pmayB pl rs = mP ∧ mayB nc xs = mC) := ⟨hmP, hmC⟩
        obtain ⟨cv, hcv⟩ : ∃ cv, mC = true → IntAt X nc co lc cc cv := by
          by_cases q : mC = true
          · obtain ⟨v, hv, _⟩ := int_of_may HP0.out.2.1 HP0.out.2.2.1 (hmC.trans q)
            exact ⟨v, fun _ => hv⟩
          · exact ⟨0, fun h => absurd h q⟩
        have HCV : Hid (CArg X nc co lc cc xs mC cv) := ⟨HP0.out.2.1, hlc, hmC, hcv⟩
        obtain ⟨q1, hq1⟩ : ∃ c, bad1 mP = c := ⟨_, rfl⟩
        obtain ⟨q2, hq2⟩ : ∃ c, bad1 (mP && mC) = c := ⟨_, rfl⟩
        obtain ⟨q3, hq3⟩ : ∃ c, bad2 mP K = c := ⟨_, rfl⟩
        obtain ⟨q4, hq4⟩ : ∃ c, bad3 mP pl = c := ⟨_, rfl⟩
        have HQ : Hid (bad1 mP = q1 ∧ bad1 (mP && mC) = q2 ∧ bad2 mP K = q3 ∧ bad3 mP pl = q4) := ⟨hq1, hq2, hq3, hq4⟩
        clear hmP hmC hcv hq1 hq2 hq3 hq4
        have S0 : Hid True := trivial
        go_upto_if 41 with (first
          | (have _t := S2; clear S2 _t; go_at_call 6; refine (pmay_any oa pl ca2 rs _ HST1.out.1 (by omega) (fun r hr => Nat.le_trans (HLM.out r hr) (by decide)) mP HMM.out.1).mono ?_; rintro e x3 ⟨rfl, hb3⟩)
          | (have _t := S1; clear S1 _t; go_at_call 5; refine (copyPoly_any po pl pc rs _ (HP0.out.1.later hB1) (by omega) (fun t => Nat.le_trans (rv_lim HLM.out t) (by decide))).mono ?_; rintro e x2 ⟨oa, ca2, rfl, hra, hb2⟩; have HST1 : Hid (RawsAt x2 oa pl ca2 rs ∧ Below X.heap.size X x2) := ⟨hra, bnext hB1 hb2⟩; clear hra hb2; clear c0 c1 c2 c3; have S2 : Hid True := trivial)
          | (have _t := S0; clear S0 _t; go_at_call 4; rw [← hX]; clear hX; refine (heavy6_any po pl pc rs nc co lc cc K _ HP0.out.1 HP0.out.2.2.2 false HHV.out).mono ?_; rintro e x1 ⟨rfl, hB1⟩; obtain ⟨c0, c1, c2, c3⟩ := HXB.out.2 _ hB1; have S1 : Hid True := trivial))
        clear d0 d1 d2 d3 hB1
        obtain ⟨p, hpa⟩ := parg_of_raws HST1.out.1 (by omega) (rv_lim HLM.out)
        rw [HMM.out.1] at hpa
        have HST : Hid (∀ V, Below x2.heap.size x2 V → PArg V oa pl ca2 rs mP p ∧ CArg V nc co lc cc xs mC cv ∧ (V.cell? ⟨wr.heap.size, 0, none⟩ = some (.slice po pl pc) ∧ V.cell? ⟨wr.heap.size, 1, none⟩ = some (.bool nc) ∧ V.cell? ⟨wr.heap.size, 2, none⟩ = some (.slice co lc cc) ∧ V.cell? ⟨wr.heap.size, 3, none⟩ = some (.int .i64 K)) ∧ RawsAt V po pl pc rs ∧ Below w.heap.size w V) := fun V hV => ⟨hpa.later hV, HCV.out.later (bnext HST1.out.2 hV), HXB.out.2 _ (bnext HST1.out.2 hV), HP0.out.1.later (bnext HST1.out.2 hV), bnext hbel (bnext HXB.out.1 (bnext HST1.out.2 hV))⟩
        clear hpa
        go_cut [6] (fun s6 wx => s6 = .int .i64 q1 ∧ Below x2.heap.size x2 wx)
        case first =>
          rcases bad1_two mP with ⟨q, qc⟩ | ⟨q, qc⟩
          · have HK : Hid (q1 = 0) := HQ.out.1.symm.trans qc
            subst q
            clear qc
            go_wp2
            go_meet
            exact ⟨by rw [HK.out], hb3⟩
          · have HK : Hid (q1 = 50) := HQ.out.1.symm.trans qc
            subst q
            clear qc
            go_wp2
            go_meet
            exact ⟨by rw [HK.out], hb3⟩
        case rest => as_aux_lemma =>
          obtain ⟨rfl, hB3⟩ := hcut
          obtain ⟨y3, hy3⟩ : ∃ y, y = wc := ⟨_, rfl⟩
          subst hy3
          clear hb3
          obtain ⟨c0, c1, c2, c3⟩ := (HST.out _ hB3).2.2.1
          go_upto_if 46 with (go_at_call 7; refine (may_at nc co lc cc xs _ (HST.out _ hB3).2.1.row (by omega) mC HMM.out.2).mono ?_; rintro e z4 ⟨rfl, hb4⟩)
          clear c0 c1 c2 c3
          go_cut [7] (fun s7 wx => s7 = .int .i64 q2 ∧ Below x2.heap.size x2 wx)
          case first =>
            rcases Bool.eq_false_or_eq_true mC with q | q
            · have HK : Hid (q1 = q2) := by show q1 = q2; rw [← HQ.out.1, ← HQ.out.2.1, q, Bool.and_true]
              subst q
              go_wp2
              go_meet
              exact ⟨by rw [HK.out], bnext hB3 hb4⟩
            · have HK : Hid (50 = q2) := by show 50 = q2; rw [← HQ.out.2.1, q, Bool.and_false]; rfl
              subst q
              go_wp2
              go_meet
              exact ⟨by rw [← HK.out], bnext hB3 hb4⟩
          case rest => as_aux_lemma =>
            obtain ⟨rfl, hB4⟩ := hcut
            obtain ⟨y4, hy4⟩ : ∃ y, y = wc := ⟨_, rfl⟩
            subst hy4
            clear hb4
            obtain ⟨c0, c1, c2, c3⟩ := (HST.out _ hB4).2.2.1
            obtain ⟨v3, hv3⟩ : ∃ v : Bool, v = (mP && decide (K < -64 ∨ 64 < K)) := ⟨_, rfl⟩
            have HV3 : Hid (v3 = (mP && decide (K < -64 ∨ 64 < K))) := hv3
            clear hv3
            go_upto_region 15 with fail
            go_cut [59] (fun s59 wx => s59 = .bool v3 ∧ Below x2.heap.size x2 wx)
            case first =>
              rcases bad1_two mP with ⟨q, qc⟩ | ⟨q, qc⟩
              · have HK : Hid (q1 = 0 ∧ mP = true) := ⟨HQ.out.1.symm.trans qc, q⟩
                have hz : (q1 == 0) = true := by rw [HK.out.1]; rfl
                clear q qc
                by_cases k1 : K < -64
                · have HT : Hid (v3 = true) := by show v3 = true; rw [HV3.out, HK.out.2, decide_eq_true (Or.inl k1)]; rfl
                  go_wp2
                  go_meet
                  exact ⟨by rw [HT.out], hB4⟩
                · by_cases k2 : 64 < K
                  · have HT : Hid (v3 = true) := by show v3 = true; rw [HV3.out, HK.out.2, decide_eq_true (Or.inr k2)]; rfl
                    go_wp2
                    go_meet
                    exact ⟨by rw [HT.out], hB4⟩
                  · have HT : Hid (v3 = false) := by show v3 = false; rw [HV3.out, HK.out.2, decide_eq_false (by omega)]; rfl
                    go_wp2
                    go_meet
                    exact ⟨by rw [HT.out], hB4⟩
              · have HK : Hid (q1 = 50 ∧ mP = false) := ⟨HQ.out.1.symm.trans qc, q⟩
                have hz : (q1 == 0) = false := by rw [HK.out.1]; rfl
                have HT : Hid (v3 = false) := by show v3 = false; rw [HV3.out, HK.out.2]; rfl
                clear q qc
                go_wp2
                go_meet
                exact ⟨by rw [HT.out], hB4⟩
            case rest => as_aux_lemma =>
              obtain ⟨rfl, hB5⟩ := hcut
              obtain ⟨y5, hy5⟩ : ∃ y, y = wc := ⟨_, rfl⟩
              subst hy5
              clear hB4 c0 c1 c2 c3
              go_upto_if 59 with fail
              go_cut [8] (fun s8 wx => s8 = .int .i64 q3 ∧ Below x2.heap.size x2 wx)
              case first =>
                rcases Bool.eq_false_or_eq_true v3 with q | q
                · have HK : Hid (60 = q3) := by
                    have h := HV3.out
                    rw [q] at h
                    show 60 = q3
                    rw [← HQ.out.2.2.1]
                    obtain ⟨h1, h2⟩ : mP = true ∧ (K < -64 ∨ 64 < K) := by simpa using h.symm
                    unfold bad2
                    rw [if_pos h1, if_pos h2]
                  subst q
                  go_wp2
                  go_meet
                  exact ⟨by rw [← HK.out], hB5⟩
                · have HK : Hid (q1 = q3) := by
                    have h := HV3.out
                    rw [q] at h
                    show q1 = q3
                    rw [← HQ.out.1, ← HQ.out.2.2.1]
                    unfold bad1 bad2
                    cases mP
                    · rfl
                    · have h2 : ¬ (K < -64 ∨ 64 < K) := by simpa using h.symm
                      rw [if_pos rfl, if_pos rfl, if_neg h2]
                  subst q
                  go_wp2
                  go_meet
                  exact ⟨by rw [HK.out], hB5⟩
              case rest => as_aux_lemma =>
                obtain ⟨rfl, hB6⟩ := hcut
                obtain ⟨y6, hy6⟩ : ∃ y, y = wc := ⟨_, rfl⟩
                subst hy6
                clear hB5 HV3
                obtain ⟨v4, hv4⟩ : ∃ v : Bool, v = (mP && decide (pl = 0)) := ⟨_, rfl⟩
                have HV4 : Hid (v4 = (mP && decide (pl = 0))) := hv4
                clear hv4
                go_upto_region 18 with fail
                go_cut [67] (fun s67 wx => s67 = .bool v4 ∧ Below x2.heap.size x2 wx)
                case first =>
                  rcases bad1_two mP with ⟨q, qc⟩ | ⟨q, qc⟩
                  · have HK : Hid (q1 = 0 ∧ mP = true) := ⟨HQ.out.1.symm.trans qc, q⟩
                    have hz : (q1 == 0) = true := by rw [HK.out.1]; rfl
                    clear q qc
                    by_cases k1 : pl = 0
                    · have HT : Hid (v4 = true) := by show v4 = true; rw [HV4.out, HK.out.2, decide_eq_true k1]; rfl
                      have hz2 : ((pl : Int) == 0) = true := by rw [k1]; rfl
                      clear k1
                      go_wp2
                      go_meet
                      exact ⟨by rw [HT.out], hB6⟩
                    · have HT : Hid (v4 = false) := by show v4 = false; rw [HV4.out, HK.out.2, decide_eq_false k1]; rfl
                      have hz2 : ((pl : Int) == 0) = false := by simp; omega
                      go_wp2
                      go_meet
                      exact ⟨by rw [HT.out], hB6⟩
                  · have HK : Hid (q1 = 50 ∧ mP = false) := ⟨HQ.out.1.symm.trans qc, q⟩
                    have hz : (q1 == 0) = false := by rw [HK.out.1]; rfl
                    have HT : Hid (v4 = false) := by show v4 = false; rw [HV4.out, HK.out.2]; rfl
                    clear q qc
                    go_wp2
                    go_meet
                    exact ⟨by rw [HT.out], hB6⟩
                case rest => as_aux_lemma =>
                  obtain ⟨rfl, hB7⟩ := hcut
                  obtain ⟨y7, hy7⟩ : ∃ y, y = wc := ⟨_, rfl⟩
                  subst hy7
                  clear hB6
                  go_upto_if 67 with fail
                  go_cut [9] (fun s9 wx => s9 = .int .i64 q4 ∧ Below x2.heap.size x2 wx)
                  case first =>
                    rcases Bool.eq_false_or_eq_true v4 with q | q
                    · have HK : Hid (51 = q4) := by
                        have h := HV4.out
                        rw [q] at h
                        show 51 = q4
                        rw [← HQ.out.2.2.2]
                        obtain ⟨h1, h2⟩ : mP = true ∧ pl = 0 := by simpa using h.symm
                        unfold bad3
                        rw [if_pos h1, if_pos h2]
                      subst q
                      go_wp2
                      go_meet
                      exact ⟨by rw [← HK.out], hB7⟩
                    · have HK : Hid (q1 = q4) := by
                        have h := HV4.out
                        rw [q] at h
                        show q1 = q4
                        rw [← HQ.out.1, ← HQ.out.2.2.2]
                        unfold bad1 bad3
                        cases mP
                        · rfl
                        · have h2 : ¬ (pl = 0) := by simpa using h.symm
                          rw [if_pos rfl, if_pos rfl, if_neg h2]
                      subst q
                      go_wp2
                      go_meet
                      exact ⟨by rw [HK.out], hB7⟩
                  case rest => as_aux_lemma =>
                    obtain ⟨rfl, hB8⟩ := hcut
                    obtain ⟨y8, hy8⟩ : ∃ y, y = wc := ⟨_, rfl⟩
                    subst hy8
                    clear hB7 HV4
                    go_upto_if 69 with fail
                    go_cut [11, 12, 14] (fun s11 s12 s14 wx => ∃ o1 l1 k1 o2 l2 k2 ch, s11 = .slice o1 l1 k1 ∧ s12 = .slice o2 l2 k2 ∧ s14 = .int .i64 ch ∧ (q1 = 0 → PolyAt wx o1 l1 k1 (mir p.length p) ∧ PolyAt wx o2 l2 k2 (trimL p.reverse)) ∧ (if mP then (chN p pl).1 else 0) = ch ∧ Below x2.heap.size x2 wx)
                    case first => as_aux_lemma =>
                      rcases bad1_two mP with ⟨q, qc⟩ | ⟨q, qc⟩
                      · have HK : Hid (q1 = 0 ∧ mP = true) := ⟨HQ.out.1.symm.trans qc, q⟩
                        have hz : (q1 == 0) = true := by rw [HK.out.1]; rfl
                        have HG : Hid (∀ V, Below x2.heap.size x2 V → PolyAt V oa pl ca2 p ∧ Lead p ∧ Lim 3 p) := fun V hV => (HST.out V hV).1.good q
                        clear q qc
                        go_wp2_with (first
                          | (go_at_call 10; refine (pchanges_any oa pl ca2 p _ (HG.out _ K2.out.2.2).1 (by omega) ((HG.out _ K2.out.2.2).2.2.mono (by decide)) _ rfl).mono ?_; rintro e z3 ⟨rfl, hb⟩; have K3 : Hid (PolyAt z3 o1 l1 k1 (mir p.length p) ∧ PolyAt z3 o2 l2 k2 (trimL p.reverse) ∧ Below x2.heap.size x2 z3) := ⟨K2.out.1.later hb, K2.out.2.1.later hb, bnext K2.out.2.2 hb⟩; clear hb)
                          | (go_at_call 9; refine (pturn_any oa pl ca2 p _ (HG.out _ K1.out.2).1 (by omega) ((HG.out _ K1.out.2).2.2.mono (by decide))).mono ?_; rintro e z2 ⟨o2, l2, k2, rfl, hp2, hb⟩; have K2 : Hid (PolyAt z2 o1 l1 k1 (mir p.length p) ∧ PolyAt z2 o2 l2 k2 (trimL p.reverse) ∧ Below x2.heap.size x2 z2) := ⟨K1.out.1.later hb, hp2, bnext K1.out.2 hb⟩; clear hb hp2)
                          | (go_at_call 8; refine (pmirror_any oa pl ca2 p _ (HG.out _ hB8).1 (by omega) ((HG.out _ hB8).2.2.mono (by decide))).mono ?_; rintro e z1 ⟨o1, l1, k1, rfl, hp1, hb⟩; have K1 : Hid (PolyAt z1 o1 l1 k1 (mir p.length p) ∧ Below x2.heap.size x2 z1) := ⟨hp1, bnext hB8 hb⟩; clear hb hp1))
                        go_meet
                        exact ⟨o1, l1, k1, o2, l2, k2, _, rfl, rfl, rfl, fun _ => ⟨K3.out.1, K3.out.2.1⟩, by rw [HK.out.2]; rfl, K3.out.2.2⟩
                      · have HK : Hid (q1 = 50 ∧ mP = false) := ⟨HQ.out.1.symm.trans qc, q⟩
                        have hz : (q1 == 0) = false := by rw [HK.out.1]; rfl
                        clear q qc
                        go_wp2
                        go_meet
                        exact ⟨none, 0, 0, none, 0, 0, 0, rfl, rfl, rfl, fun h => absurd (h.symm.trans HK.out.1) (by decide), by rw [HK.out.2]; rfl, hB8⟩
                    case rest => as_aux_lemma =>
                      obtain ⟨o1, l1, k1, o2, l2, k2, ch, rfl, rfl, rfl, hw1, hch, hB9⟩ := hcut
                      obtain ⟨y9, hy9⟩ : ∃ y, y = wc := ⟨_, rfl⟩
                      subst hy9
                      have H9 : Hid ((q1 = 0 → PolyAt y9 o1 l1 k1 (mir p.length p) ∧ PolyAt y9 o2 l2 k2 (trimL p.reverse)) ∧ (if mP then (chN p pl).1 else 0) = ch ∧ Below x2.heap.size x2 y9) := ⟨hw1, hch, hB9⟩
                      clear hw1 hch hB9 hB8
                      go_upto_if 77 with fail
                      go_cut [10] (fun s10 wx => ∃ o3 l3 k3, s10 = .slice o3 l3 k3 ∧ (q2 = 0 → PolyAt wx o3 l3 k3 (sh cv p)) ∧ Below y9.heap.size y9 wx)
                      case first => as_aux_lemma =>
                        rcases bad1_two (mP && mC) with ⟨q, qc⟩ | ⟨q, qc⟩
                        · have HK : Hid (q2 = 0 ∧ mP = true ∧ mC = true) := ⟨HQ.out.2.1.symm.trans qc, by simpa using q⟩
                          have hz : (q2 == 0) = true := by rw [HK.out.1]; rfl
                          have HG := (HST.out _ H9.out.2.2).1.good HK.out.2.1
                          have HC := (HST.out _ H9.out.2.2).2.1.good HK.out.2.2
                          have hcon := pshift_any oa pl ca2 p nc co lc cc cv _ HG.1 HC (by omega) hlc HG.2.2 HG.2.1
                          obtain ⟨c0, c1, c2, c3⟩ := (HST.out _ H9.out.2.2).2.2.1
                          clear q qc HG HC
                          go_wp2_with (go_at_call 11; refine hcon.mono ?_; rintro e z1 ⟨o3, l3, k3, rfl, hp3, hb⟩; have K1 : Hid (PolyAt z1 o3 l3 k3 (sh cv p) ∧ Below y9.heap.size y9 z1) := ⟨hp3, hb⟩; clear hb hp3)
                          go_meet
                          exact ⟨o3, l3, k3, rfl, fun _ => K1.out.1, K1.out.2⟩
                        · have HK : Hid (q2 = 50) := HQ.out.2.1.symm.trans qc
                          have hz : (q2 == 0) = false := by rw [HK.out]; rfl
                          clear q qc
                          go_wp2
                          go_meet
                          exact ⟨none, 0, 0, rfl, fun h => absurd (h.symm.trans HK.out) (by decide), Below.refl _ _⟩
                      case rest => as_aux_lemma =>
                        obtain ⟨o3, l3, k3, rfl, hw3, hB10⟩ := hcut
                        obtain ⟨y10, hy10⟩ : ∃ y, y = wc := ⟨_, rfl⟩
                        subst hy10
                        have H10 : Hid ((q1 = 0 → PolyAt y10 o1 l1 k1 (mir p.length p) ∧ PolyAt y10 o2 l2 k2 (trimL p.reverse)) ∧ (q2 = 0 → PolyAt y10 o3 l3 k3 (sh cv p)) ∧ Below x2.heap.size x2 y10) := ⟨fun h => ⟨(H9.out.1 h).1.later hB10, (H9.out.1 h).2.later hB10⟩, hw3, bnext H9.out.2.2 hB10⟩
                        clear hw3 hB10
                        go_upto_if 83 with fail
                        go_cut [13] (fun s13 wx => ∃ o4 l4 k4, s13 = .slice o4 l4 k4 ∧ (q3 = 0 → PolyAt wx o4 l4 k4 (stZ K p)) ∧ Below y10.heap.size y10 wx)
                        case first => as_aux_lemma =>
                          by_cases q : q3 = 0
                          · have HK : Hid (q3 = 0 ∧ mP = true ∧ -64 ≤ K ∧ K ≤ 64) := ⟨q, bad2_zero (HQ.out.2.2.1.trans q)⟩
                            have hz : (q3 == 0) = true := by rw [HK.out.1]; rfl
                            have HG := (HST.out _ H10.out.2.2).1.good HK.out.2.1
                            have hcon := pstretch_any oa pl ca2 K p _ HG.1 (by omega) (HG.2.2.mono (by decide)) HK.out.2.2.1 HK.out.2.2.2
                            obtain ⟨c0, c1, c2, c3⟩ := (HST.out _ H10.out.2.2).2.2.1
                            clear q HG
                            go_wp2_with (go_at_call 12; refine hcon.mono ?_; rintro e z1 ⟨o4, l4, k4, rfl, hp3, hb⟩; have K1 : Hid (PolyAt z1 o4 l4 k4 (stZ K p) ∧ Below y10.heap.size y10 z1) := ⟨hp3, hb⟩; clear hb hp3)
                            go_meet
                            exact ⟨o4, l4, k4, rfl, fun _ => K1.out.1, K1.out.2⟩
                          · have HK : Hid (q3 ≠ 0) := q
                            have hz : (q3 == 0) = false := by simpa using q
                            clear q
                            go_wp2
                            go_meet
                            exact ⟨none, 0, 0, rfl, fun h => absurd h HK.out, Below.refl _ _⟩
                        case rest => as_aux_lemma =>
                          obtain ⟨o4, l4, k4, rfl, hw4, hB11⟩ := hcut
                          obtain ⟨y, hy⟩ : ∃ y, y = wc := ⟨_, rfl⟩
                          subst hy
                          have HY : Hid ((q1 = 0 → PolyAt y o1 l1 k1 (mir p.length p) ∧ PolyAt y o2 l2 k2 (trimL p.reverse)) ∧ (q2 = 0 → PolyAt y o3 l3 k3 (sh cv p)) ∧ (q3 = 0 → PolyAt y o4 l4 k4 (stZ K p)) ∧ Below x2.heap.size x2 y) := ⟨fun h => ⟨(H10.out.1 h).1.later hB11, (H10.out.1 h).2.later hB11⟩, fun h => (H10.out.2.1 h).later hB11, hw4, bnext H10.out.2.2 hB11⟩
                          clear hw4 hB11
                          have HLS : Hid ((q1 = 0 → p.length ≤ 10 ∧ Lim 3 p) ∧ (q2 = 0 → Lim 100000 (sh cv p) ∧ (sh cv p).length ≤ 1000) ∧ (q3 = 0 → Lim 100000 (stZ K p) ∧ (stZ K p).length ≤ 1000)) := by
                            have hg : mP = true → p.length ≤ 10 ∧ Lim 3 p := fun h => by
                              have := (HST.out _ HY.out.2.2.2).1.good h
                              exact ⟨by rw [← this.1.hlen]; exact hpl, this.2.2⟩
                            refine ⟨fun h => hg (bad1_zero (HQ.out.1.trans h)), fun h => ?_, fun h => ?_⟩
                            · obtain ⟨h1, h2⟩ : mP = true ∧ mC = true := by simpa using bad1_zero (HQ.out.2.1.trans h)
                              have hc := (HST.out _ HY.out.2.2.2).2.1.good h2
                              exact ⟨(ShLim.of (N := 10) (C := 3) (K := 100000) (hg h1).2 (by rw [← hc.lim]; exact hlc) (hg h1).1 (by decide)).res, by rw [sh_len]; have := (hg h1).1; omega⟩
                            · obtain ⟨h1, h2, h3⟩ := bad2_zero (HQ.out.2.2.1.trans h)
                              exact ⟨(stZ_lim (hg h1).2 (by have := (hg h1).1; omega) h2 h3).mono (by decide), by rw [stZ_len]; have := (hg h1).1; omega⟩
                          obtain ⟨c0, c1, c2, c3⟩ := (HST.out _ HY.out.2.2.2).2.2.1
                          have S0 : Hid True := trivial
                          go_upto_if 142 with (first
                            | (have _t := S0; clear S0 _t; go_at_call 13; refine (bshift_is oa pl ca2 rs mP mC p nc co lc cc xs cv _ (HST.out _ HY.out.2.2.2).1 (HST.out _ HY.out.2.2.2).2.1 q2 HQ.out.2.1).mono ?_; rintro e v0 ⟨oo0, ll0, rfl, hq0, hb0⟩; have HA0 : Hid (QAns y.heap.size v0 q2 oo0 ll0 (sh cv p) ∧ Below y.heap.size y v0 ∧ Below y.heap.size y v0) := ⟨hq0, hb0, bnext (Below.refl _ _) hb0⟩; clear hq0 hb0; have S1 : Hid True := trivial)
                            | (have _t := S1; clear S1 _t; go_at_call 14; refine (is6_any y.heap.size q2 oo0 o3 ll0 l3 k3 (sh cv p) _ HA0.out.1 (fun h => (HY.out.2.1 h).later HA0.out.2.2) HA0.out.2.1.size (fun h => (HLS.out.2.1 h).2) (fun h => (HLS.out.2.1 h).1)).mono ?_; rintro e v1 ⟨rfl, hb1⟩; have HA1 : Hid (Below y.heap.size y v1 ∧ Below y.heap.size y v1) := ⟨HA0.out.2.1.trans hb1, bnext (Below.refl _ _) (HA0.out.2.1.trans hb1)⟩; have hX1 : Below x2.heap.size x2 v1 := bnext HY.out.2.2.2 HA1.out.2; clear hb1; clear c0 c1 c2 c3; obtain ⟨c0, c1, c2, c3⟩ := (HST.out _ hX1).2.2.1; have S2 : Hid True := trivial)
                            | (have _t := S2; clear S2 _t; go_at_call 15; refine (bmirror_is oa pl ca2 rs mP p _ (HST.out _ hX1).1 q1 HQ.out.1).mono ?_; rintro e v2 ⟨oo2, ll2, rfl, hq2, hb2⟩; have HA2 : Hid (QAns v1.heap.size v2 q1 oo2 ll2 (mir p.length p) ∧ Below v1.heap.size v1 v2 ∧ Below y.heap.size y v2) := ⟨hq2, hb2, bnext HA1.out.2 hb2⟩; clear hq2 hb2; have S3 : Hid True := trivial)
                            | (have _t := S3; clear S3 _t; go_at_call 14; refine (is6_any v1.heap.size q1 oo2 o1 ll2 l1 k1 (mir p.length p) _ HA2.out.1 (fun h => ((fun h => (HY.out.1 h).1) h).later HA2.out.2.2) HA2.out.2.1.size (fun h => by rw [mir_len]; have := (HLS.out.1 h).1; omega) (fun h => mir_lim ((HLS.out.1 h).2.mono (by decide)))).mono ?_; rintro e v3 ⟨rfl, hb3⟩; have HA3 : Hid (Below v1.heap.size v1 v3 ∧ Below y.heap.size y v3) := ⟨HA2.out.2.1.trans hb3, bnext HA1.out.2 (HA2.out.2.1.trans hb3)⟩; have hX3 : Below x2.heap.size x2 v3 := bnext HY.out.2.2.2 HA3.out.2; clear hb3; clear c0 c1 c2 c3; obtain ⟨c0, c1, c2, c3⟩ := (HST.out _ hX3).2.2.1; have S4 : Hid True := trivial)
                            | (have _t := S4; clear S4 _t; go_at_call 16; refine (bturn_is oa pl ca2 rs mP p _ (HST.out _ hX3).1 q1 HQ.out.1).mono ?_; rintro e v4 ⟨oo4, ll4, rfl, hq4, hb4⟩; have HA4 : Hid (QAns v3.heap.size v4 q1 oo4 ll4 (trimL p.reverse) ∧ Below v3.heap.size v3 v4 ∧ Below y.heap.size y v4) := ⟨hq4, hb4, bnext HA3.out.2 hb4⟩; clear hq4 hb4; have S5 : Hid True := trivial)
                            | (have _t := S5; clear S5 _t; go_at_call 14; refine (is6_any v3.heap.size q1 oo4 o2 ll4 l2 k2 (trimL p.reverse) _ HA4.out.1 (fun h => ((fun h => (HY.out.1 h).2) h).later HA4.out.2.2) HA4.out.2.1.size (fun h => by rw [trimL_len]; have := (HLS.out.1 h).1; have := trimN_le p.reverse p.reverse.length; rw [List.length_reverse] at this ⊢; omega) (fun h => trimL_lim (rev_lim ((HLS.out.1 h).2.mono (by decide))))).mono ?_; rintro e v5 ⟨rfl, hb5⟩; have HA5 : Hid (Below v3.heap.size v3 v5 ∧ Below y.heap.size y v5) := ⟨HA4.out.2.1.trans hb5, bnext HA3.out.2 (HA4.out.2.1.trans hb5)⟩; have hX5 : Below x2.heap.size x2 v5 := bnext HY.out.2.2.2 HA5.out.2; clear hb5; clear c0 c1 c2 c3; obtain ⟨c0, c1, c2, c3⟩ := (HST.out _ hX5).2.2.1; have S6 : Hid True := trivial)
                            | (have _t := S6; clear S6 _t; go_at_call 17; refine (bstretch_is oa pl ca2 rs mP p K _ (HST.out _ hX5).1 q3 HQ.out.2.2.1).mono ?_; rintro e v6 ⟨oo6, ll6, rfl, hq6, hb6⟩; have HA6 : Hid (QAns v5.heap.size v6 q3 oo6 ll6 (stZ K p) ∧ Below v5.heap.size v5 v6 ∧ Below y.heap.size y v6) := ⟨hq6, hb6, bnext HA5.out.2 hb6⟩; clear hq6 hb6; have S7 : Hid True := trivial)
                            | (have _t := S7; clear S7 _t; go_at_call 14; refine (is6_any v5.heap.size q3 oo6 o4 ll6 l4 k4 (stZ K p) _ HA6.out.1 (fun h => (HY.out.2.2.1 h).later HA6.out.2.2) HA6.out.2.1.size (fun h => (HLS.out.2.2 h).2) (fun h => (HLS.out.2.2 h).1)).mono ?_; rintro e v7 ⟨rfl, hb7⟩; have HA7 : Hid (Below v5.heap.size v5 v7 ∧ Below y.heap.size y v7) := ⟨HA6.out.2.1.trans hb7, bnext HA5.out.2 (HA6.out.2.1.trans hb7)⟩; have hX7 : Below x2.heap.size x2 v7 := bnext HY.out.2.2.2 HA7.out.2; clear hb7; clear c0 c1 c2 c3; obtain ⟨c0, c1, c2, c3⟩ := (HST.out _ hX7).2.2.1; have S8 : Hid True := trivial)
                            | (have _t := S8; clear S8 _t; go_at_call 18; refine (bbound_is oa pl ca2 rs mP p _ (HST.out _ hX7).1 q4 HQ.out.2.2.2).mono ?_; rintro e v8 ⟨⟨kb, rfl, hk0, hk1⟩, hb8⟩; have HA8 : Hid ((q4 ≠ 0 → kb = 0) ∧ (q4 = 0 → Least ((dig p (p.length - 1)).natAbs : Int) (((dig p (p.length - 1)).natAbs : Int) + mxA p (p.length - 1)) kb) ∧ Below x2.heap.size x2 v8) := ⟨hk0, hk1, bnext hX7 hb8⟩; clear hk0 hk1 hb8; clear c0 c1 c2 c3; have S9 : Hid True := trivial))
                          go_cut [19] (fun s19 wx => s19 = .int .i64 (kb : Int) ∧ Below x2.heap.size x2 wx)
                          case first => as_aux_lemma =>
                            by_cases q : q4 = 0
                            · have HK : Hid (q4 = 0 ∧ mP = true ∧ 0 < pl) := ⟨q, bad3_zero (HQ.out.2.2.2.trans q)⟩
                              have hz : (q4 == 0) = true := by rw [HK.out.1]; rfl
                              have HG := (HST.out _ HA8.out.2.2).1.good HK.out.2.1
                              have hcon := pbound_any oa pl ca2 p _ HG.1 HK.out.2.2 (by omega) HG.2.2 HG.2.1
                              have HLN : Hid (pl = p.length) := HG.1.hlen
                              clear q HG
                              go_wp2_with (go_at_call 19; refine hcon.mono ?_; rintro e z1 ⟨⟨kz, rfl, hkz⟩, hb⟩; have K1 : Hid (kz = kb ∧ Below x2.heap.size x2 z1) := ⟨by rw [HLN.out] at hkz; exact hkz.one (HA8.out.2.1 HK.out.1), bnext HA8.out.2.2 hb⟩; clear hb hkz)
                              go_meet
                              exact ⟨by rw [K1.out.1], K1.out.2⟩
                            · have HK : Hid (kb = 0) := HA8.out.1 q
                              have hz : (q4 == 0) = false := by simpa using q
                              clear q
                              go_wp2
                              go_meet
                              exact ⟨by rw [HK.out]; rfl, HA8.out.2.2⟩
                          case rest => as_aux_lemma =>
                            obtain ⟨rfl, hB12⟩ := hcut
                            obtain ⟨y12, hy12⟩ : ∃ y, y = wc := ⟨_, rfl⟩
                            subst hy12
                            obtain ⟨c0, c1, c2, c3⟩ := (HST.out _ hB12).2.2.1
                            have hb1 : (q4 != q4) = false := by simp
                            have hb2 : ((kb : Int) != (kb : Int)) = false := by simp
                            have hb3 : (ch != ch) = false := by simp
                            go_wp2_with (first
                              | (go_at_call 20; refine (num6_any _ _).mono ?_; rintro e z1 ⟨rfl, hz1⟩; replace hz1 := hz1.symm; subst hz1)
                              | (go_at_call 21; refine (bchanges_is oa pl ca2 rs mP p _ (HST.out _ hB12).1 ch H9.out.2.1).mono ?_; rintro e z2 ⟨rfl, hb⟩; have hB13 : Below x2.heap.size x2 z2 := bnext hB12 hb; clear hb c0 c1 c2 c3; obtain ⟨c0, c1, c2, c3⟩ := (HST.out _ hB13).2.2.1)
                              | (go_at_call 22; refine (eqpoly_of (eqraws_same oa po pl ca2 pc rs _ (HST.out _ hB13).1.raws (HST.out _ hB13).2.2.2.1 (by omega) (fun t => Nat.le_trans (rv_lim HLM.out t) (by decide)))).mono ?_; rintro e z3 ⟨rfl, hb⟩; have hB14 : Below x2.heap.size x2 z3 := bnext hB13 hb; clear hb))
                            go_roundw
                            case rel => exact ⟨k + 1, by omega, by go_num, (HST.out _ hB14).2.2.2.2⟩
                            case measure => simp [intOf]; omega
      · have g2 : ¬ (k : Int) < 12 := by omega
        go_wp2_with (go_at_call 23; refine (wakes6_any _).mono ?_; rintro e x1 ⟨rfl, hb1⟩)
        go_ret
        exact ⟨rfl, bnext hbel hb1⟩
    · obtain rfl : k = len := by omega
      go_wp2_with (go_at_call 23; refine (wakes6_any _).mono ?_; rintro e x1 ⟨rfl, hb1⟩)
      go_ret
      exact ⟨rfl, bnext hbel hb1⟩
end Go.Proofs.YtdanaebhjkbfmaaGreat
