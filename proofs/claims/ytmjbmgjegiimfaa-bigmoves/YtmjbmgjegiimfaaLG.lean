/-
  BigMoves: the walk.
-/
import Derived.Test.YtmjbmgjegiimfaaLG0
namespace Go.Proofs.Ytmjbmgjegiimfaa
open Go.RowKit
set_option linter.unusedVariables false
set_option linter.unusedSimpArgs false

set_option maxRecDepth 100000 in
set_option maxHeartbeats 40000000 in
theorem bigMoves_any (lo : Option Addr) (len cap : Nat) (w : World) (hE : ElemsAt w lo len) (hl : len ≤ 9223372036854775807) :
    Calls Try.prog 3 #[.slice lo len cap] w fun e w' => e = .returned (.bool true) ∧ Below w.heap.size w w' := by
  go_enter Try.func3, Try.ntmps3
  go_wp2
  go_loopw [3] (fun i wr => ∃ k : Nat, k ≤ len ∧ k ≤ 40 ∧ i = .int .i64 k ∧ Below w.heap.size w wr) (fun i _ => 40 - (intOf i).toNat)
  case atStart => exact ⟨0, Nat.zero_le _, by omega, rfl, Below.refl _ _⟩
  case round =>
    obtain ⟨k, hk, hk40, rfl, hbel⟩ := hrel
    by_cases hlt : k < len ∧ k < 40
    · obtain ⟨hlt, hlt40⟩ := hlt
      obtain ⟨b, off, rfl, hbw, hel⟩ := hE k hlt
      obtain ⟨na, nb, ao, bo, la, ca, lb, cb, N, x, y, ⟨h0, h1, h2, h3, h4⟩, hx, wx, hy, wy, hn1, hn2⟩ := hel.later hbel hbw
      have hbr : b < wr.heap.size := Nat.lt_of_lt_of_le hbw hbel.size
      obtain ⟨W, hT⟩ := In5.mk' wr na nb ao bo la ca lb cb N
      have hsz := hT.size
      have hbW : Below w.heap.size w W := bnext hbel hT.below
      have HX : Hid (RowAt W .u64 ao la ca x ∧ Wd 18446744073709551616 x) := ⟨hx.later hT.below, wx⟩
      clear hx hy wx wy hel
      by_cases h4l : 4 < (la : Int)
      · as_aux_lemma =>
        have hcon : ∀ W', Calls Try.prog 4 #[.agg #[.bool na, .slice ao la ca], .int .i64 4] W' fun e w' => e = .returned (.bool true) ∧ Below W'.heap.size W' w' := fun W' => (long_any na ao la ca 4 W').mono fun e w' h => by rw [decide_eq_true h4l] at h; exact h
        clear h4l
        obtain ⟨q0, q1, q2, q3, q4⟩ := hT.p
        go_wp2_with (go_at_call 4; rw [← hT.eq]; refine (hcon _).mono ?_; rintro e w1 ⟨rfl, hb1⟩)
        go_ret
        exact ⟨rfl, bnext hbW hb1⟩
      · have hcon : ∀ W', Calls Try.prog 4 #[.agg #[.bool na, .slice ao la ca], .int .i64 4] W' fun e w' => e = .returned (.bool false) ∧ Below W'.heap.size W' w' := fun W' => (long_any na ao la ca 4 W').mono fun e w' h => by rw [decide_eq_false h4l] at h; exact h
        have hla : la ≤ 4 := by omega
        clear h4l
        cases hm : mayB na x
        · as_aux_lemma =>
          have HM : Hid (mayB na x = false) := hm
          clear hm
          go_upto_region 7 with (go_at_call 4; rw [← hT.eq]; refine (hcon _).mono ?_; rintro e w1 ⟨rfl, hb1⟩; have HV : Hid (Five w1 wr.heap.size na nb ao bo la ca lb cb N ∧ RowAt w1 .u64 ao la ca x ∧ Below w.heap.size w w1 ∧ wr.heap.size < w1.heap.size) := ⟨hT.p.later hb1 (by omega), HX.out.1.later hb1, bnext hbW hb1, (by have := hb1.size; omega)⟩; clear hb1 h0 h1 h2 h3 h4)
          go_cut [5, 6, 7, 8] (fun s5 s6 s7 s8 wx => ∃ g, s5 = .pointer (some ⟨g, 0, none⟩) ∧ s6 = .pointer (some ⟨g + 1, 0, none⟩) ∧ s7 = .pointer (some ⟨g + 2, 0, none⟩) ∧ s8 = .pointer (some ⟨g + 3, 0, none⟩) ∧ Mv w wx wr.heap.size g na nb ao bo la ca lb cb N x 0 0 0 0)
          case first => as_aux_lemma =>
            go_wp2
            go_meet
            exact ⟨_, rfl, rfl, rfl, rfl, Mv.new HV.out.1 HV.out.2.1 HV.out.2.2.2 HV.out.2.2.1⟩
          case rest => as_aux_lemma =>
            obtain ⟨g, rfl, rfl, rfl, rfl, hex⟩ := hcut
            obtain ⟨Y0, hY0⟩ : ∃ Z0, Z0 = wc := ⟨_, rfl⟩
            subst hY0
            have HY0 : Hid (Mv w Y0 wr.heap.size g na nb ao bo la ca lb cb N x 0 0 0 0) := hex
            clear hex HV
            go_upto_region 8 with fail
            go_cut [9, 10, 11, 12] (fun s9 s10 s11 s12 wx => s9 = .int .i64 10 ∧ s10 = .int .i64 10 ∧ s11 = .int .i64 10 ∧ s12 = .int .i64 10 ∧ Below Y0.heap.size Y0 wx)
            case first => as_aux_lemma =>
              have KS : Hid (∀ w' : World, Below Y0.heap.size Y0 w' → (Below Y0.heap.size Y0 w' ∧ Five w' wr.heap.size na nb ao bo la ca lb cb N)) := fun w' h => ⟨h, (HY0.out.later h).p⟩
              have TK : Tok 0 := ⟨trivial⟩
              go_region_held3 (fun w' => (Below Y0.heap.size Y0 w' ∧ w'.cell? ⟨wr.heap.size, 0, none⟩ = some (.bool na) ∧ w'.cell? ⟨wr.heap.size, 1, none⟩ = some (.slice ao la ca) ∧ w'.cell? ⟨wr.heap.size, 2, none⟩ = some (.bool nb) ∧ w'.cell? ⟨wr.heap.size, 3, none⟩ = some (.slice bo lb cb) ∧ w'.cell? ⟨wr.heap.size, 4, none⟩ = some (.int .i64 N)))
                (first
                  | exact KS.out _ (Below.refl _ _).drew
                  | assumption
                  | exact KS.out _ (by assumption))
                (first
                  | (have _t : Tok 0 := TK; go_at_call 5; refine (one_any na nb ao bo la ca lb cb N x _ (HY0.out.later (Below.refl _ _).drew).ja (by omega) 10 (by rw [HM.out]; rfl)).mono ?_; rintro e y1 ⟨rfl, hb1⟩; have hB1 : Below Y0.heap.size Y0 y1 := bnext (Below.refl _ _).drew hb1; clear hb1 TK; have TK : Tok 1 := ⟨trivial⟩)
                  | (have _t : Tok 1 := TK; go_at_call 5; refine (one_any na nb ao bo la ca lb cb N x _ (HY0.out.later hB1).ja (by omega) 10 (by rw [HM.out]; rfl)).mono ?_; rintro e y2 ⟨rfl, hb2⟩; have hB2 : Below Y0.heap.size Y0 y2 := bnext hB1 hb2; clear hb2 TK; have TK : Tok 2 := ⟨trivial⟩)
                  | (have _t : Tok 2 := TK; go_at_call 5; refine (one_any na nb ao bo la ca lb cb N x _ (HY0.out.later hB2).ja (by omega) 10 (by rw [HM.out]; rfl)).mono ?_; rintro e y3 ⟨rfl, hb3⟩; have hB3 : Below Y0.heap.size Y0 y3 := bnext hB2 hb3; clear hb3 TK; have TK : Tok 3 := ⟨trivial⟩)
                  | (have _t : Tok 3 := TK; go_at_call 5; refine (one_any na nb ao bo la ca lb cb N x _ (HY0.out.later hB3).ja (by omega) 10 (by rw [HM.out]; rfl)).mono ?_; rintro e y4 ⟨rfl, hb4⟩; have hB4 : Below Y0.heap.size Y0 y4 := bnext hB3 hb4; clear hb4 TK; have TK : Tok 4 := ⟨trivial⟩))
              go_wp2
              go_meet
              exact ⟨rfl, rfl, rfl, rfl, hB4⟩
            case rest => as_aux_lemma =>
              obtain ⟨rfl, rfl, rfl, rfl, hbY⟩ := hcut
              obtain ⟨Z0, hZ0⟩ : ∃ Z0, Z0 = wc := ⟨_, rfl⟩
              subst hZ0
              have HE0 : Hid (Mv w Z0 wr.heap.size g na nb ao bo la ca lb cb N x 0 0 0 0) := HY0.out.later hbY
              clear hbY HY0
              go_upto_region 23 with fail
              go_cut [13, 14] (fun s13 s14 wx => ∃ r, s13 = .pointer (some ⟨r, 0, none⟩) ∧ s14 = .int .i64 10 ∧ NilAt Z0 wx r)
              case first => as_aux_lemma =>
                -- region 23
                obtain ⟨f0, f1, f2, f3, f4⟩ := (HE0.out.later (Below.refl _ _)).p
                go_wp2_with (go_at_call 10; refine (left_form na ao la ca N x _ (HE0.out.later (Below.refl _ _)).ja (by omega) HM.out).mono ?_; rintro e y5 ⟨rfl, hb5⟩; have HA5 : Hid (Below Z0.heap.size Z0 y5) := hb5)
                go_meet
                exact ⟨_, rfl, rfl, Slot.new.2, Slot.new.1, HA5.out.size, below_alloc HA5.out (Nat.le_refl _)⟩
              case rest => as_aux_lemma =>
                obtain ⟨r, rfl, rfl, hans⟩ := hcut
                obtain ⟨XLeft, hXLeft⟩ : ∃ Z0, Z0 = wc := ⟨_, rfl⟩
                subst hXLeft
                have HNLeft : Hid (NilAt Z0 XLeft r) := hans
                have hrK : Z0.heap.size ≤ r := hans.2.2.1
                clear hans
                go_upto_region 24 with fail
                go_cut [108] (fun s9 wx => s9 = .bool false ∧ Slot wx r ∧ Below Z0.heap.size Z0 wx)
                case first => as_aux_lemma =>
                  -- region 24
                  obtain ⟨gx0, gx1⟩ := HNLeft.out.1
                  obtain ⟨n8, o8, l8, c8, ⟨g80, g81⟩, hi8, hf8⟩ := (HE0.out.later HNLeft.out.2.2.2).v0
                  clear hi8 hf8
                  go_wp2_with (go_at_call 11; refine (is_bad n8 o8 l8 c8 10 _ (by decide)).mono ?_; rintro e y6 ⟨rfl, hb6, _⟩; have HA6 : Hid (Below XLeft.heap.size XLeft y6) := hb6; clear hb6)
                  go_meet
                  exact ⟨rfl, HNLeft.out.2.1.at HA6.out HNLeft.out.2.1.lt, HNLeft.out.2.2.2.trans (HA6.out.mono HNLeft.out.2.2.2.size)⟩
                case rest => as_aux_lemma =>
                  obtain ⟨rfl, hsl, hbZ⟩ := hcut
                  obtain ⟨YRight, hYRight⟩ : ∃ Z0, Z0 = wc := ⟨_, rfl⟩
                  subst hYRight
                  have HBRight : Hid (Slot YRight r ∧ Below Z0.heap.size Z0 YRight) := ⟨hsl, hbZ⟩
                  clear hsl hbZ HNLeft
                  go_upto_region 26 with fail
                  go_cut [14] (fun s14 wx => s14 = .int .i64 10 ∧ NilAt Z0 wx r)
                  case first => as_aux_lemma =>
                    -- region 26
                    obtain ⟨f0, f1, f2, f3, f4⟩ := (HE0.out.later HBRight.out.2).p
                    go_wp2_with (go_at_call 12; refine (right_form na ao la ca N x _ (HE0.out.later HBRight.out.2).ja (by omega) HM.out).mono ?_; rintro e y5 ⟨rfl, hb5⟩; have HA5 : Hid (Below YRight.heap.size YRight y5) := hb5; obtain ⟨⟨n9, o9, l9, c9, k0, k1⟩, k2⟩ := HBRight.out.1.at hb5 HBRight.out.1.lt)
                    go_meet
                    exact ⟨rfl, ((HBRight.out.1.at HA5.out HBRight.out.1.lt).put _ _ _ _).2, ((HBRight.out.1.at HA5.out HBRight.out.1.lt).put _ _ _ _).1, hrK, below_store (HBRight.out.2.trans (HA5.out.mono HBRight.out.2.size)) hrK _ _⟩
                  case rest => as_aux_lemma =>
                    obtain ⟨rfl, hans⟩ := hcut
                    obtain ⟨XRight, hXRight⟩ : ∃ Z0, Z0 = wc := ⟨_, rfl⟩
                    subst hXRight
                    clear HBRight
                    have HNRight : Hid (NilAt Z0 XRight r) := hans
                    clear hans
                    go_upto_region 27 with fail
                    go_cut [122] (fun s9 wx => s9 = .bool false ∧ Slot wx r ∧ Below Z0.heap.size Z0 wx)
                    case first => as_aux_lemma =>
                      -- region 27
                      obtain ⟨gx0, gx1⟩ := HNRight.out.1
                      obtain ⟨n8, o8, l8, c8, ⟨g80, g81⟩, hi8, hf8⟩ := (HE0.out.later HNRight.out.2.2.2).v1
                      clear hi8 hf8
                      go_wp2_with (go_at_call 11; refine (is_bad n8 o8 l8 c8 10 _ (by decide)).mono ?_; rintro e y6 ⟨rfl, hb6, _⟩; have HA6 : Hid (Below XRight.heap.size XRight y6) := hb6; clear hb6)
                      go_meet
                      exact ⟨rfl, HNRight.out.2.1.at HA6.out HNRight.out.2.1.lt, HNRight.out.2.2.2.trans (HA6.out.mono HNRight.out.2.2.2.size)⟩
                    case rest => as_aux_lemma =>
                      obtain ⟨rfl, hsl, hbZ⟩ := hcut
                      obtain ⟨YPow, hYPow⟩ : ∃ Z0, Z0 = wc := ⟨_, rfl⟩
                      subst hYPow
                      have HBPow : Hid (Slot YPow r ∧ Below Z0.heap.size Z0 YPow) := ⟨hsl, hbZ⟩
                      clear hsl hbZ HNRight
                      go_upto_region 29 with fail
                      go_cut [14] (fun s14 wx => s14 = .int .i64 10 ∧ NilAt Z0 wx r)
                      case first => as_aux_lemma =>
                        -- region 29
                        obtain ⟨f0, f1, f2, f3, f4⟩ := (HE0.out.later HBPow.out.2).p
                        go_wp2_with (go_at_call 13; refine (pow_form na ao la ca N x _ (HE0.out.later HBPow.out.2).ja (by omega) HM.out).mono ?_; rintro e y5 ⟨rfl, hb5⟩; have HA5 : Hid (Below YPow.heap.size YPow y5) := hb5; obtain ⟨⟨n9, o9, l9, c9, k0, k1⟩, k2⟩ := HBPow.out.1.at hb5 HBPow.out.1.lt)
                        go_meet
                        exact ⟨rfl, ((HBPow.out.1.at HA5.out HBPow.out.1.lt).put _ _ _ _).2, ((HBPow.out.1.at HA5.out HBPow.out.1.lt).put _ _ _ _).1, hrK, below_store (HBPow.out.2.trans (HA5.out.mono HBPow.out.2.size)) hrK _ _⟩
                      case rest => as_aux_lemma =>
                        obtain ⟨rfl, hans⟩ := hcut
                        obtain ⟨XPow, hXPow⟩ : ∃ Z0, Z0 = wc := ⟨_, rfl⟩
                        subst hXPow
                        clear HBPow
                        have HNPow : Hid (NilAt Z0 XPow r) := hans
                        clear hans
                        go_upto_region 30 with fail
                        go_cut [136] (fun s9 wx => s9 = .bool false ∧ Slot wx r ∧ Below Z0.heap.size Z0 wx)
                        case first => as_aux_lemma =>
                          -- region 30
                          obtain ⟨gx0, gx1⟩ := HNPow.out.1
                          obtain ⟨n8, o8, l8, c8, ⟨g80, g81⟩, hi8, hf8⟩ := (HE0.out.later HNPow.out.2.2.2).v2
                          clear hi8 hf8
                          go_wp2_with (go_at_call 11; refine (is_bad n8 o8 l8 c8 10 _ (by decide)).mono ?_; rintro e y6 ⟨rfl, hb6, _⟩; have HA6 : Hid (Below XPow.heap.size XPow y6) := hb6; clear hb6)
                          go_meet
                          exact ⟨rfl, HNPow.out.2.1.at HA6.out HNPow.out.2.1.lt, HNPow.out.2.2.2.trans (HA6.out.mono HNPow.out.2.2.2.size)⟩
                        case rest => as_aux_lemma =>
                          obtain ⟨rfl, hsl, hbZ⟩ := hcut
                          obtain ⟨YRoot, hYRoot⟩ : ∃ Z0, Z0 = wc := ⟨_, rfl⟩
                          subst hYRoot
                          have HBRoot : Hid (Slot YRoot r ∧ Below Z0.heap.size Z0 YRoot) := ⟨hsl, hbZ⟩
                          clear hsl hbZ HNPow
                          go_upto_region 32 with fail
                          go_cut [14] (fun s14 wx => s14 = .int .i64 10 ∧ NilAt Z0 wx r)
                          case first => as_aux_lemma =>
                            -- region 32
                            obtain ⟨f0, f1, f2, f3, f4⟩ := (HE0.out.later HBRoot.out.2).p
                            go_wp2_with (go_at_call 14; refine (root_form na ao la ca N x _ (HE0.out.later HBRoot.out.2).ja (by omega) HM.out).mono ?_; rintro e y5 ⟨rfl, hb5⟩; have HA5 : Hid (Below YRoot.heap.size YRoot y5) := hb5; obtain ⟨⟨n9, o9, l9, c9, k0, k1⟩, k2⟩ := HBRoot.out.1.at hb5 HBRoot.out.1.lt)
                            go_meet
                            exact ⟨rfl, ((HBRoot.out.1.at HA5.out HBRoot.out.1.lt).put _ _ _ _).2, ((HBRoot.out.1.at HA5.out HBRoot.out.1.lt).put _ _ _ _).1, hrK, below_store (HBRoot.out.2.trans (HA5.out.mono HBRoot.out.2.size)) hrK _ _⟩
                          case rest => as_aux_lemma =>
                            obtain ⟨rfl, hans⟩ := hcut
                            obtain ⟨XRoot, hXRoot⟩ : ∃ Z0, Z0 = wc := ⟨_, rfl⟩
                            subst hXRoot
                            clear HBRoot
                            have HNRoot : Hid (NilAt Z0 XRoot r) := hans
                            clear hans
                            go_upto_region 33 with fail
                            go_cut [150] (fun s9 wx => s9 = .bool false ∧ Slot wx r ∧ Below Z0.heap.size Z0 wx)
                            case first => as_aux_lemma =>
                              -- region 33
                              obtain ⟨gx0, gx1⟩ := HNRoot.out.1
                              obtain ⟨n8, o8, l8, c8, ⟨g80, g81⟩, hi8, hf8⟩ := (HE0.out.later HNRoot.out.2.2.2).v3
                              clear hi8 hf8
                              go_wp2_with (go_at_call 11; refine (is_bad n8 o8 l8 c8 10 _ (by decide)).mono ?_; rintro e y6 ⟨rfl, hb6, _⟩; have HA6 : Hid (Below XRoot.heap.size XRoot y6) := hb6; clear hb6)
                              go_meet
                              exact ⟨rfl, HNRoot.out.2.1.at HA6.out HNRoot.out.2.1.lt, HNRoot.out.2.2.2.trans (HA6.out.mono HNRoot.out.2.2.2.size)⟩
                            case rest => as_aux_lemma =>
                              obtain ⟨rfl, hsl, hbZ⟩ := hcut
                              obtain ⟨YEnd, hYEnd⟩ : ∃ Z0, Z0 = wc := ⟨_, rfl⟩
                              subst hYEnd
                              have HBEnd : Hid (Slot YEnd r ∧ Below Z0.heap.size Z0 YEnd) := ⟨hsl, hbZ⟩
                              clear hsl hbZ HNRoot
                              go_wp2
                              go_roundw
                              case rel => exact ⟨k + 1, by omega, by omega, by go_num, HE0.out.bw.trans (HBEnd.out.2.mono HE0.out.bw.size)⟩
                              case measure => simp [intOf]; omega
        · obtain ⟨va, hIa, hxa⟩ := int_of_may HX.out.1 HX.out.2 hm
          have HM : Hid (mayB na x = true) := hm
          have HSG : Hid (na = sgB va) := hIa.sg
          have HLV : Hid ((mag va.natAbs).length ≤ 4) := (by show _ ≤ _; rw [← hIa.row.hlen]; exact hla)
          clear hm hIa
          subst hxa
          by_cases c1 : N < 0
          · as_aux_lemma =>
            go_upto_region 7 with (go_at_call 4; rw [← hT.eq]; refine (hcon _).mono ?_; rintro e w1 ⟨rfl, hb1⟩; have HV : Hid (Five w1 wr.heap.size na nb ao bo la ca lb cb N ∧ RowAt w1 .u64 ao la ca (mag va.natAbs) ∧ Below w.heap.size w w1 ∧ wr.heap.size < w1.heap.size) := ⟨hT.p.later hb1 (by omega), HX.out.1.later hb1, bnext hbW hb1, (by have := hb1.size; omega)⟩; clear hb1 h0 h1 h2 h3 h4)
            go_cut [5, 6, 7, 8] (fun s5 s6 s7 s8 wx => ∃ g, s5 = .pointer (some ⟨g, 0, none⟩) ∧ s6 = .pointer (some ⟨g + 1, 0, none⟩) ∧ s7 = .pointer (some ⟨g + 2, 0, none⟩) ∧ s8 = .pointer (some ⟨g + 3, 0, none⟩) ∧ Mv w wx wr.heap.size g na nb ao bo la ca lb cb N (mag va.natAbs) 0 0 0 0)
            case first => as_aux_lemma =>
              go_wp2
              go_meet
              exact ⟨_, rfl, rfl, rfl, rfl, Mv.new HV.out.1 HV.out.2.1 HV.out.2.2.2 HV.out.2.2.1⟩
            case rest => as_aux_lemma =>
              obtain ⟨g, rfl, rfl, rfl, rfl, hex⟩ := hcut
              obtain ⟨Y0, hY0⟩ : ∃ Z0, Z0 = wc := ⟨_, rfl⟩
              subst hY0
              have HY0 : Hid (Mv w Y0 wr.heap.size g na nb ao bo la ca lb cb N (mag va.natAbs) 0 0 0 0) := hex
              clear hex HV
              go_upto_region 8 with fail
              go_cut [9, 10, 11, 12] (fun s9 s10 s11 s12 wx => s9 = .int .i64 0 ∧ s10 = .int .i64 0 ∧ s11 = .int .i64 0 ∧ s12 = .int .i64 0 ∧ Below Y0.heap.size Y0 wx)
              case first => as_aux_lemma =>
                have KS : Hid (∀ w' : World, Below Y0.heap.size Y0 w' → (Below Y0.heap.size Y0 w' ∧ Five w' wr.heap.size na nb ao bo la ca lb cb N)) := fun w' h => ⟨h, (HY0.out.later h).p⟩
                have TK : Tok 0 := ⟨trivial⟩
                go_region_held3 (fun w' => (Below Y0.heap.size Y0 w' ∧ w'.cell? ⟨wr.heap.size, 0, none⟩ = some (.bool na) ∧ w'.cell? ⟨wr.heap.size, 1, none⟩ = some (.slice ao la ca) ∧ w'.cell? ⟨wr.heap.size, 2, none⟩ = some (.bool nb) ∧ w'.cell? ⟨wr.heap.size, 3, none⟩ = some (.slice bo lb cb) ∧ w'.cell? ⟨wr.heap.size, 4, none⟩ = some (.int .i64 N)))
                  (first
                    | exact KS.out _ (Below.refl _ _).drew
                    | assumption
                    | exact KS.out _ (by assumption))
                  (first
                    | (have _t : Tok 0 := TK; go_at_call 5; refine (one_any na nb ao bo la ca lb cb N (mag va.natAbs) _ (HY0.out.later (Below.refl _ _).drew).ja (by omega) 0 (by rw [HM.out]; rfl)).mono ?_; rintro e y1 ⟨rfl, hb1⟩; have hB1 : Below Y0.heap.size Y0 y1 := bnext (Below.refl _ _).drew hb1; clear hb1 TK; have TK : Tok 1 := ⟨trivial⟩)
                    | (have _t : Tok 1 := TK; go_at_call 5; refine (one_any na nb ao bo la ca lb cb N (mag va.natAbs) _ (HY0.out.later hB1).ja (by omega) 0 (by rw [HM.out]; rfl)).mono ?_; rintro e y2 ⟨rfl, hb2⟩; have hB2 : Below Y0.heap.size Y0 y2 := bnext hB1 hb2; clear hb2 TK; have TK : Tok 2 := ⟨trivial⟩)
                    | (have _t : Tok 2 := TK; go_at_call 5; refine (one_any na nb ao bo la ca lb cb N (mag va.natAbs) _ (HY0.out.later hB2).ja (by omega) 0 (by rw [HM.out]; rfl)).mono ?_; rintro e y3 ⟨rfl, hb3⟩; have hB3 : Below Y0.heap.size Y0 y3 := bnext hB2 hb3; clear hb3 TK; have TK : Tok 3 := ⟨trivial⟩)
                    | (have _t : Tok 3 := TK; go_at_call 5; refine (one_any na nb ao bo la ca lb cb N (mag va.natAbs) _ (HY0.out.later hB3).ja (by omega) 0 (by rw [HM.out]; rfl)).mono ?_; rintro e y4 ⟨rfl, hb4⟩; have hB4 : Below Y0.heap.size Y0 y4 := bnext hB3 hb4; clear hb4 TK; have TK : Tok 4 := ⟨trivial⟩))
                go_wp2
                go_meet
                exact ⟨rfl, rfl, rfl, rfl, hB4⟩
              case rest => as_aux_lemma =>
                obtain ⟨rfl, rfl, rfl, rfl, hbY⟩ := hcut
                obtain ⟨Z0, hZ0⟩ : ∃ Z0, Z0 = wc := ⟨_, rfl⟩
                subst hZ0
                have HE0 : Hid (Mv w Z0 wr.heap.size g na nb ao bo la ca lb cb N (mag va.natAbs) 0 0 0 0) := HY0.out.later hbY
                clear hbY HY0
                obtain ⟨f0, f1, f2, f3, f4⟩ := HE0.out.p
                go_upto_region 23 with fail
                clear f0 f1 f2 f3 f4
                go_cut [13, 14] (fun s13 s14 wx => ∃ r, s13 = .pointer (some ⟨r, 0, none⟩) ∧ s14 = .int .i64 12 ∧ NilAt Z0 wx r)
                case first => as_aux_lemma =>
                  -- region 23
                  obtain ⟨f0, f1, f2, f3, f4⟩ := (HE0.out.later (Below.refl _ _)).p
                  go_wp2_with (go_at_call 10; refine (left_low na ao la ca N va _ ⟨HSG.out, (HE0.out.later (Below.refl _ _)).ja⟩ (by omega) (by omega)).mono ?_; rintro e y5 ⟨rfl, hb5⟩; have HA5 : Hid (Below Z0.heap.size Z0 y5) := hb5)
                  go_meet
                  exact ⟨_, rfl, rfl, Slot.new.2, Slot.new.1, HA5.out.size, below_alloc HA5.out (Nat.le_refl _)⟩
                case rest => as_aux_lemma =>
                  obtain ⟨r, rfl, rfl, hans⟩ := hcut
                  obtain ⟨XLeft, hXLeft⟩ : ∃ Z0, Z0 = wc := ⟨_, rfl⟩
                  subst hXLeft
                  have HNLeft : Hid (NilAt Z0 XLeft r) := hans
                  have hrK : Z0.heap.size ≤ r := hans.2.2.1
                  clear hans
                  go_upto_region 24 with fail
                  go_cut [108] (fun s9 wx => s9 = .bool false ∧ Slot wx r ∧ Below Z0.heap.size Z0 wx)
                  case first => as_aux_lemma =>
                    -- region 24
                    obtain ⟨gx0, gx1⟩ := HNLeft.out.1
                    obtain ⟨n8, o8, l8, c8, ⟨g80, g81⟩, hi8, hf8⟩ := (HE0.out.later HNLeft.out.2.2.2).v0
                    clear hi8 hf8
                    go_wp2_with (go_at_call 11; refine (is_bad n8 o8 l8 c8 12 _ (by decide)).mono ?_; rintro e y6 ⟨rfl, hb6, _⟩; have HA6 : Hid (Below XLeft.heap.size XLeft y6) := hb6; clear hb6)
                    go_meet
                    exact ⟨rfl, HNLeft.out.2.1.at HA6.out HNLeft.out.2.1.lt, HNLeft.out.2.2.2.trans (HA6.out.mono HNLeft.out.2.2.2.size)⟩
                  case rest => as_aux_lemma =>
                    obtain ⟨rfl, hsl, hbZ⟩ := hcut
                    obtain ⟨YRight, hYRight⟩ : ∃ Z0, Z0 = wc := ⟨_, rfl⟩
                    subst hYRight
                    have HBRight : Hid (Slot YRight r ∧ Below Z0.heap.size Z0 YRight) := ⟨hsl, hbZ⟩
                    clear hsl hbZ HNLeft
                    go_upto_region 26 with fail
                    go_cut [14] (fun s14 wx => s14 = .int .i64 12 ∧ NilAt Z0 wx r)
                    case first => as_aux_lemma =>
                      -- region 26
                      obtain ⟨f0, f1, f2, f3, f4⟩ := (HE0.out.later HBRight.out.2).p
                      go_wp2_with (go_at_call 12; refine (right_low na ao la ca N va _ ⟨HSG.out, (HE0.out.later HBRight.out.2).ja⟩ (by omega) (by omega)).mono ?_; rintro e y5 ⟨rfl, hb5⟩; have HA5 : Hid (Below YRight.heap.size YRight y5) := hb5; obtain ⟨⟨n9, o9, l9, c9, k0, k1⟩, k2⟩ := HBRight.out.1.at hb5 HBRight.out.1.lt)
                      go_meet
                      exact ⟨rfl, ((HBRight.out.1.at HA5.out HBRight.out.1.lt).put _ _ _ _).2, ((HBRight.out.1.at HA5.out HBRight.out.1.lt).put _ _ _ _).1, hrK, below_store (HBRight.out.2.trans (HA5.out.mono HBRight.out.2.size)) hrK _ _⟩
                    case rest => as_aux_lemma =>
                      obtain ⟨rfl, hans⟩ := hcut
                      obtain ⟨XRight, hXRight⟩ : ∃ Z0, Z0 = wc := ⟨_, rfl⟩
                      subst hXRight
                      clear HBRight
                      have HNRight : Hid (NilAt Z0 XRight r) := hans
                      clear hans
                      go_upto_region 27 with fail
                      go_cut [122] (fun s9 wx => s9 = .bool false ∧ Slot wx r ∧ Below Z0.heap.size Z0 wx)
                      case first => as_aux_lemma =>
                        -- region 27
                        obtain ⟨gx0, gx1⟩ := HNRight.out.1
                        obtain ⟨n8, o8, l8, c8, ⟨g80, g81⟩, hi8, hf8⟩ := (HE0.out.later HNRight.out.2.2.2).v1
                        clear hi8 hf8
                        go_wp2_with (go_at_call 11; refine (is_bad n8 o8 l8 c8 12 _ (by decide)).mono ?_; rintro e y6 ⟨rfl, hb6, _⟩; have HA6 : Hid (Below XRight.heap.size XRight y6) := hb6; clear hb6)
                        go_meet
                        exact ⟨rfl, HNRight.out.2.1.at HA6.out HNRight.out.2.1.lt, HNRight.out.2.2.2.trans (HA6.out.mono HNRight.out.2.2.2.size)⟩
                      case rest => as_aux_lemma =>
                        obtain ⟨rfl, hsl, hbZ⟩ := hcut
                        obtain ⟨YPow, hYPow⟩ : ∃ Z0, Z0 = wc := ⟨_, rfl⟩
                        subst hYPow
                        have HBPow : Hid (Slot YPow r ∧ Below Z0.heap.size Z0 YPow) := ⟨hsl, hbZ⟩
                        clear hsl hbZ HNRight
                        go_upto_region 29 with fail
                        go_cut [14] (fun s14 wx => s14 = .int .i64 12 ∧ NilAt Z0 wx r)
                        case first => as_aux_lemma =>
                          -- region 29
                          obtain ⟨f0, f1, f2, f3, f4⟩ := (HE0.out.later HBPow.out.2).p
                          go_wp2_with (go_at_call 13; refine (pow_low na ao la ca N va _ ⟨HSG.out, (HE0.out.later HBPow.out.2).ja⟩ (by omega) (by omega)).mono ?_; rintro e y5 ⟨rfl, hb5⟩; have HA5 : Hid (Below YPow.heap.size YPow y5) := hb5; obtain ⟨⟨n9, o9, l9, c9, k0, k1⟩, k2⟩ := HBPow.out.1.at hb5 HBPow.out.1.lt)
                          go_meet
                          exact ⟨rfl, ((HBPow.out.1.at HA5.out HBPow.out.1.lt).put _ _ _ _).2, ((HBPow.out.1.at HA5.out HBPow.out.1.lt).put _ _ _ _).1, hrK, below_store (HBPow.out.2.trans (HA5.out.mono HBPow.out.2.size)) hrK _ _⟩
                        case rest => as_aux_lemma =>
                          obtain ⟨rfl, hans⟩ := hcut
                          obtain ⟨XPow, hXPow⟩ : ∃ Z0, Z0 = wc := ⟨_, rfl⟩
                          subst hXPow
                          clear HBPow
                          have HNPow : Hid (NilAt Z0 XPow r) := hans
                          clear hans
                          go_upto_region 30 with fail
                          go_cut [136] (fun s9 wx => s9 = .bool false ∧ Slot wx r ∧ Below Z0.heap.size Z0 wx)
                          case first => as_aux_lemma =>
                            -- region 30
                            obtain ⟨gx0, gx1⟩ := HNPow.out.1
                            obtain ⟨n8, o8, l8, c8, ⟨g80, g81⟩, hi8, hf8⟩ := (HE0.out.later HNPow.out.2.2.2).v2
                            clear hi8 hf8
                            go_wp2_with (go_at_call 11; refine (is_bad n8 o8 l8 c8 12 _ (by decide)).mono ?_; rintro e y6 ⟨rfl, hb6, _⟩; have HA6 : Hid (Below XPow.heap.size XPow y6) := hb6; clear hb6)
                            go_meet
                            exact ⟨rfl, HNPow.out.2.1.at HA6.out HNPow.out.2.1.lt, HNPow.out.2.2.2.trans (HA6.out.mono HNPow.out.2.2.2.size)⟩
                          case rest => as_aux_lemma =>
                            obtain ⟨rfl, hsl, hbZ⟩ := hcut
                            obtain ⟨YRoot, hYRoot⟩ : ∃ Z0, Z0 = wc := ⟨_, rfl⟩
                            subst hYRoot
                            have HBRoot : Hid (Slot YRoot r ∧ Below Z0.heap.size Z0 YRoot) := ⟨hsl, hbZ⟩
                            clear hsl hbZ HNPow
                            go_upto_region 32 with fail
                            go_cut [14] (fun s14 wx => s14 = .int .i64 12 ∧ NilAt Z0 wx r)
                            case first => as_aux_lemma =>
                              -- region 32
                              obtain ⟨f0, f1, f2, f3, f4⟩ := (HE0.out.later HBRoot.out.2).p
                              go_wp2_with (go_at_call 14; refine (root_low na ao la ca N va _ ⟨HSG.out, (HE0.out.later HBRoot.out.2).ja⟩ (by omega) (by omega)).mono ?_; rintro e y5 ⟨rfl, hb5⟩; have HA5 : Hid (Below YRoot.heap.size YRoot y5) := hb5; obtain ⟨⟨n9, o9, l9, c9, k0, k1⟩, k2⟩ := HBRoot.out.1.at hb5 HBRoot.out.1.lt)
                              go_meet
                              exact ⟨rfl, ((HBRoot.out.1.at HA5.out HBRoot.out.1.lt).put _ _ _ _).2, ((HBRoot.out.1.at HA5.out HBRoot.out.1.lt).put _ _ _ _).1, hrK, below_store (HBRoot.out.2.trans (HA5.out.mono HBRoot.out.2.size)) hrK _ _⟩
                            case rest => as_aux_lemma =>
                              obtain ⟨rfl, hans⟩ := hcut
                              obtain ⟨XRoot, hXRoot⟩ : ∃ Z0, Z0 = wc := ⟨_, rfl⟩
                              subst hXRoot
                              clear HBRoot
                              have HNRoot : Hid (NilAt Z0 XRoot r) := hans
                              clear hans
                              go_upto_region 33 with fail
                              go_cut [150] (fun s9 wx => s9 = .bool false ∧ Slot wx r ∧ Below Z0.heap.size Z0 wx)
                              case first => as_aux_lemma =>
                                -- region 33
                                obtain ⟨gx0, gx1⟩ := HNRoot.out.1
                                obtain ⟨n8, o8, l8, c8, ⟨g80, g81⟩, hi8, hf8⟩ := (HE0.out.later HNRoot.out.2.2.2).v3
                                clear hi8 hf8
                                go_wp2_with (go_at_call 11; refine (is_bad n8 o8 l8 c8 12 _ (by decide)).mono ?_; rintro e y6 ⟨rfl, hb6, _⟩; have HA6 : Hid (Below XRoot.heap.size XRoot y6) := hb6; clear hb6)
                                go_meet
                                exact ⟨rfl, HNRoot.out.2.1.at HA6.out HNRoot.out.2.1.lt, HNRoot.out.2.2.2.trans (HA6.out.mono HNRoot.out.2.2.2.size)⟩
                              case rest => as_aux_lemma =>
                                obtain ⟨rfl, hsl, hbZ⟩ := hcut
                                obtain ⟨YEnd, hYEnd⟩ : ∃ Z0, Z0 = wc := ⟨_, rfl⟩
                                subst hYEnd
                                have HBEnd : Hid (Slot YEnd r ∧ Below Z0.heap.size Z0 YEnd) := ⟨hsl, hbZ⟩
                                clear hsl hbZ HNRoot
                                go_wp2
                                go_roundw
                                case rel => exact ⟨k + 1, by omega, by omega, by go_num, HE0.out.bw.trans (HBEnd.out.2.mono HE0.out.bw.size)⟩
                                case measure => simp [intOf]; omega
          · obtain ⟨n, rfl⟩ : ∃ n : Nat, N = (n : Int) := ⟨N.toNat, by omega⟩
            by_cases c2 : 65536 < (n : Int)
            · as_aux_lemma =>
              go_upto_region 7 with (go_at_call 4; rw [← hT.eq]; refine (hcon _).mono ?_; rintro e w1 ⟨rfl, hb1⟩; have HV : Hid (Five w1 wr.heap.size na nb ao bo la ca lb cb (n : Int) ∧ RowAt w1 .u64 ao la ca (mag va.natAbs) ∧ Below w.heap.size w w1 ∧ wr.heap.size < w1.heap.size) := ⟨hT.p.later hb1 (by omega), HX.out.1.later hb1, bnext hbW hb1, (by have := hb1.size; omega)⟩; clear hb1 h0 h1 h2 h3 h4)
              go_cut [5, 6, 7, 8] (fun s5 s6 s7 s8 wx => ∃ g, s5 = .pointer (some ⟨g, 0, none⟩) ∧ s6 = .pointer (some ⟨g + 1, 0, none⟩) ∧ s7 = .pointer (some ⟨g + 2, 0, none⟩) ∧ s8 = .pointer (some ⟨g + 3, 0, none⟩) ∧ Mv w wx wr.heap.size g na nb ao bo la ca lb cb (n : Int) (mag va.natAbs) 0 0 0 0)
              case first => as_aux_lemma =>
                go_wp2
                go_meet
                exact ⟨_, rfl, rfl, rfl, rfl, Mv.new HV.out.1 HV.out.2.1 HV.out.2.2.2 HV.out.2.2.1⟩
              case rest => as_aux_lemma =>
                obtain ⟨g, rfl, rfl, rfl, rfl, hex⟩ := hcut
                obtain ⟨Y0, hY0⟩ : ∃ Z0, Z0 = wc := ⟨_, rfl⟩
                subst hY0
                have HY0 : Hid (Mv w Y0 wr.heap.size g na nb ao bo la ca lb cb (n : Int) (mag va.natAbs) 0 0 0 0) := hex
                clear hex HV
                go_upto_region 8 with fail
                go_cut [9, 10, 11, 12] (fun s9 s10 s11 s12 wx => s9 = .int .i64 0 ∧ s10 = .int .i64 0 ∧ s11 = .int .i64 0 ∧ s12 = .int .i64 0 ∧ Below Y0.heap.size Y0 wx)
                case first => as_aux_lemma =>
                  have KS : Hid (∀ w' : World, Below Y0.heap.size Y0 w' → (Below Y0.heap.size Y0 w' ∧ Five w' wr.heap.size na nb ao bo la ca lb cb (n : Int))) := fun w' h => ⟨h, (HY0.out.later h).p⟩
                  have TK : Tok 0 := ⟨trivial⟩
                  go_region_held3 (fun w' => (Below Y0.heap.size Y0 w' ∧ w'.cell? ⟨wr.heap.size, 0, none⟩ = some (.bool na) ∧ w'.cell? ⟨wr.heap.size, 1, none⟩ = some (.slice ao la ca) ∧ w'.cell? ⟨wr.heap.size, 2, none⟩ = some (.bool nb) ∧ w'.cell? ⟨wr.heap.size, 3, none⟩ = some (.slice bo lb cb) ∧ w'.cell? ⟨wr.heap.size, 4, none⟩ = some (.int .i64 (n : Int))))
                    (first
                      | exact KS.out _ (Below.refl _ _).drew
                      | assumption
                      | exact KS.out _ (by assumption))
                    (first
                      | (have _t : Tok 0 := TK; go_at_call 5; refine (one_any na nb ao bo la ca lb cb (n : Int) (mag va.natAbs) _ (HY0.out.later (Below.refl _ _).drew).ja (by omega) 0 (by rw [HM.out]; rfl)).mono ?_; rintro e y1 ⟨rfl, hb1⟩; have hB1 : Below Y0.heap.size Y0 y1 := bnext (Below.refl _ _).drew hb1; clear hb1 TK; have TK : Tok 1 := ⟨trivial⟩)
                      | (have _t : Tok 1 := TK; go_at_call 5; refine (one_any na nb ao bo la ca lb cb (n : Int) (mag va.natAbs) _ (HY0.out.later hB1).ja (by omega) 0 (by rw [HM.out]; rfl)).mono ?_; rintro e y2 ⟨rfl, hb2⟩; have hB2 : Below Y0.heap.size Y0 y2 := bnext hB1 hb2; clear hb2 TK; have TK : Tok 2 := ⟨trivial⟩)
                      | (have _t : Tok 2 := TK; go_at_call 5; refine (one_any na nb ao bo la ca lb cb (n : Int) (mag va.natAbs) _ (HY0.out.later hB2).ja (by omega) 0 (by rw [HM.out]; rfl)).mono ?_; rintro e y3 ⟨rfl, hb3⟩; have hB3 : Below Y0.heap.size Y0 y3 := bnext hB2 hb3; clear hb3 TK; have TK : Tok 3 := ⟨trivial⟩)
                      | (have _t : Tok 3 := TK; go_at_call 5; refine (one_any na nb ao bo la ca lb cb (n : Int) (mag va.natAbs) _ (HY0.out.later hB3).ja (by omega) 0 (by rw [HM.out]; rfl)).mono ?_; rintro e y4 ⟨rfl, hb4⟩; have hB4 : Below Y0.heap.size Y0 y4 := bnext hB3 hb4; clear hb4 TK; have TK : Tok 4 := ⟨trivial⟩))
                  go_wp2
                  go_meet
                  exact ⟨rfl, rfl, rfl, rfl, hB4⟩
                case rest => as_aux_lemma =>
                  obtain ⟨rfl, rfl, rfl, rfl, hbY⟩ := hcut
                  obtain ⟨Z0, hZ0⟩ : ∃ Z0, Z0 = wc := ⟨_, rfl⟩
                  subst hZ0
                  have HE0 : Hid (Mv w Z0 wr.heap.size g na nb ao bo la ca lb cb (n : Int) (mag va.natAbs) 0 0 0 0) := HY0.out.later hbY
                  clear hbY HY0
                  obtain ⟨f0, f1, f2, f3, f4⟩ := HE0.out.p
                  go_upto_region 16 with fail
                  clear f0 f1 f2 f3 f4
                  go_cut [62] (fun s9 wx => Mv w wx wr.heap.size g na nb ao bo la ca lb cb (n : Int) (mag va.natAbs) (0) (va / ((2 ^ n : Nat) : Int)) (0) (0))
                  case first => as_aux_lemma =>
                    -- region 16
                    obtain ⟨f0, f1, f2, f3, f4⟩ := HE0.out.p
                    go_wp2_with (go_at_call 7; refine (rright_any na ao la ca n va _ ⟨HSG.out, HE0.out.ja⟩ (by omega) (by omega)).mono ?_; rintro e y5 ⟨n5, o5, l5, c5, rfl, hi5, hb5⟩; have HA5 : Hid (IntAt y5 n5 o5 l5 c5 (va / ((2 ^ n : Nat) : Int)) ∧ Below Z0.heap.size Z0 y5) := ⟨hi5, hb5⟩; obtain ⟨⟨n9, o9, l9, c9, k0, k1⟩, k2⟩ := (HE0.out.v1.later hb5).slot; clear hi5)
                    go_meet
                    exact Mv.put1 HE0.out HA5.out.2 HA5.out.1
                  case rest => as_aux_lemma =>
                    have HE1 : Hid (Mv w wc wr.heap.size g na nb ao bo la ca lb cb (n : Int) (mag va.natAbs) (0) (va / ((2 ^ n : Nat) : Int)) (0) (0)) := hcut
                    clear hcut HE0
                    obtain ⟨Z1, hZ⟩ : ∃ Z0, Z0 = wc := ⟨_, rfl⟩
                    rw [← hZ] at HE1
                    rw [← hZ]
                    clear hZ
                    obtain ⟨f0, f1, f2, f3, f4⟩ := HE1.out.p
                    go_upto_region 23 with fail
                    clear f0 f1 f2 f3 f4
                    go_cut [13, 14] (fun s13 s14 wx => ∃ r, s13 = .pointer (some ⟨r, 0, none⟩) ∧ s14 = .int .i64 12 ∧ NilAt Z1 wx r)
                    case first => as_aux_lemma =>
                      -- region 23
                      obtain ⟨f0, f1, f2, f3, f4⟩ := (HE1.out.later (Below.refl _ _)).p
                      go_wp2_with (go_at_call 10; refine (left_high na ao la ca (n : Int) va _ ⟨HSG.out, (HE1.out.later (Below.refl _ _)).ja⟩ (by omega) (by omega)).mono ?_; rintro e y5 ⟨rfl, hb5⟩; have HA5 : Hid (Below Z1.heap.size Z1 y5) := hb5)
                      go_meet
                      exact ⟨_, rfl, rfl, Slot.new.2, Slot.new.1, HA5.out.size, below_alloc HA5.out (Nat.le_refl _)⟩
                    case rest => as_aux_lemma =>
                      obtain ⟨r, rfl, rfl, hans⟩ := hcut
                      obtain ⟨XLeft, hXLeft⟩ : ∃ Z0, Z0 = wc := ⟨_, rfl⟩
                      subst hXLeft
                      have HNLeft : Hid (NilAt Z1 XLeft r) := hans
                      have hrK : Z1.heap.size ≤ r := hans.2.2.1
                      clear hans
                      go_upto_region 24 with fail
                      go_cut [108] (fun s9 wx => s9 = .bool false ∧ Slot wx r ∧ Below Z1.heap.size Z1 wx)
                      case first => as_aux_lemma =>
                        -- region 24
                        obtain ⟨gx0, gx1⟩ := HNLeft.out.1
                        obtain ⟨n8, o8, l8, c8, ⟨g80, g81⟩, hi8, hf8⟩ := (HE1.out.later HNLeft.out.2.2.2).v0
                        clear hi8 hf8
                        go_wp2_with (go_at_call 11; refine (is_bad n8 o8 l8 c8 12 _ (by decide)).mono ?_; rintro e y6 ⟨rfl, hb6, _⟩; have HA6 : Hid (Below XLeft.heap.size XLeft y6) := hb6; clear hb6)
                        go_meet
                        exact ⟨rfl, HNLeft.out.2.1.at HA6.out HNLeft.out.2.1.lt, HNLeft.out.2.2.2.trans (HA6.out.mono HNLeft.out.2.2.2.size)⟩
                      case rest => as_aux_lemma =>
                        obtain ⟨rfl, hsl, hbZ⟩ := hcut
                        obtain ⟨YRight, hYRight⟩ : ∃ Z0, Z0 = wc := ⟨_, rfl⟩
                        subst hYRight
                        have HBRight : Hid (Slot YRight r ∧ Below Z1.heap.size Z1 YRight) := ⟨hsl, hbZ⟩
                        clear hsl hbZ HNLeft
                        go_upto_region 26 with fail
                        go_cut [14] (fun s14 wx => s14 = .int .i64 0 ∧ AnsAt Z1 wx r (va / ((2 ^ n : Nat) : Int)))
                        case first => as_aux_lemma =>
                          -- region 26
                          obtain ⟨f0, f1, f2, f3, f4⟩ := (HE1.out.later HBRight.out.2).p
                          go_wp2_with (go_at_call 12; refine (bright_le na ao la ca n va _ ⟨HSG.out, (HE1.out.later HBRight.out.2).ja⟩ (by omega) (by omega)).mono ?_; rintro e y5 ⟨n5, o5, l5, c5, rfl, hs5, ho5, hb5⟩; have hl5 : l5 ≤ 100000000 := (by rw [ho5.row.hlen]; refine Nat.le_trans (len_right va n) ?_; have q2 := HLV.out; omega); have HA5 : Hid (n5 = sgB (va / ((2 ^ n : Nat) : Int)) ∧ Own YRight.heap.size y5 .u64 44 o5 l5 c5 (mag (va / ((2 ^ n : Nat) : Int)).natAbs) ∧ Below YRight.heap.size YRight y5 ∧ l5 ≤ 100000000) := ⟨hs5, ho5, hb5, hl5⟩; obtain ⟨⟨n9, o9, l9, c9, k0, k1⟩, k2⟩ := HBRight.out.1.at hb5 HBRight.out.1.lt; clear hs5 ho5 hl5)
                          go_meet
                          exact ⟨rfl, _, _, _, _, _, Ans.put (HBRight.out.1.at HA5.out.2.2.1 HBRight.out.1.lt) HBRight.out.1.lt HA5.out.1 HA5.out.2.1 HA5.out.2.2.2, HBRight.out.2.size, Nat.le_trans HA5.out.2.2.1.size (by simp [World.setCell]), hrK, below_store (HBRight.out.2.trans (HA5.out.2.2.1.mono HBRight.out.2.size)) hrK _ _⟩
                        case rest => as_aux_lemma =>
                          obtain ⟨rfl, hans⟩ := hcut
                          obtain ⟨XRight, hXRight⟩ : ∃ Z0, Z0 = wc := ⟨_, rfl⟩
                          subst hXRight
                          clear HBRight
                          have HNRight : Hid (AnsAt Z1 XRight r (va / ((2 ^ n : Nat) : Int))) := hans
                          clear hans
                          go_upto_region 27 with fail
                          go_cut [122] (fun s9 wx => s9 = .bool false ∧ Slot wx r ∧ Below Z1.heap.size Z1 wx)
                          case first => as_aux_lemma =>
                            -- region 27
                            obtain ⟨B, n7, o7, l7, c7, q1, q2, q3, q4, q5⟩ := HNRight.out
                            obtain ⟨gx0, gx1⟩ := q1.box
                            obtain ⟨n8, o8, l8, c8, ⟨g80, g81⟩, hi8, hf8⟩ := (HE1.out.later q5).v1
                            have HQ : Hid (Ans B XRight r n7 o7 l7 c7 (va / ((2 ^ n : Nat) : Int)) ∧ Z1.heap.size ≤ B ∧ B ≤ XRight.heap.size ∧ Below Z1.heap.size Z1 XRight ∧ IntAt XRight n8 o8 l8 c8 (va / ((2 ^ n : Nat) : Int))) := ⟨q1, q2, q3, q5, hi8⟩
                            clear q1 q2 q3 q4 q5 hi8 hf8
                            go_wp2_with (go_at_call 11; refine (is_good B n7 n8 o7 o8 l7 c7 l8 c8 (va / ((2 ^ n : Nat) : Int)) _ HQ.out.1.sg HQ.out.1.own HQ.out.2.2.1 HQ.out.2.2.2.2 (Nat.le_trans HQ.out.1.len (by decide))).mono ?_; rintro e y6 ⟨rfl, hb6, hsy⟩; have HA6 : Hid (Below B XRight y6 ∧ Stay o7 XRight y6) := ⟨hb6, hsy⟩; clear hb6 hsy)
                            go_meet
                            exact ⟨rfl, HQ.out.1.slot.stay HA6.out.2 HQ.out.1.off, HQ.out.2.2.2.1.trans (HA6.out.1.mono HQ.out.2.1)⟩
                          case rest => as_aux_lemma =>
                            obtain ⟨rfl, hsl, hbZ⟩ := hcut
                            obtain ⟨YPow, hYPow⟩ : ∃ Z0, Z0 = wc := ⟨_, rfl⟩
                            subst hYPow
                            have HBPow : Hid (Slot YPow r ∧ Below Z1.heap.size Z1 YPow) := ⟨hsl, hbZ⟩
                            clear hsl hbZ HNRight
                            go_upto_region 29 with fail
                            go_cut [14] (fun s14 wx => s14 = .int .i64 12 ∧ NilAt Z1 wx r)
                            case first => as_aux_lemma =>
                              -- region 29
                              obtain ⟨f0, f1, f2, f3, f4⟩ := (HE1.out.later HBPow.out.2).p
                              go_wp2_with (go_at_call 13; refine (pow_high na ao la ca (n : Int) va _ ⟨HSG.out, (HE1.out.later HBPow.out.2).ja⟩ (by omega) (by omega)).mono ?_; rintro e y5 ⟨rfl, hb5⟩; have HA5 : Hid (Below YPow.heap.size YPow y5) := hb5; obtain ⟨⟨n9, o9, l9, c9, k0, k1⟩, k2⟩ := HBPow.out.1.at hb5 HBPow.out.1.lt)
                              go_meet
                              exact ⟨rfl, ((HBPow.out.1.at HA5.out HBPow.out.1.lt).put _ _ _ _).2, ((HBPow.out.1.at HA5.out HBPow.out.1.lt).put _ _ _ _).1, hrK, below_store (HBPow.out.2.trans (HA5.out.mono HBPow.out.2.size)) hrK _ _⟩
                            case rest => as_aux_lemma =>
                              obtain ⟨rfl, hans⟩ := hcut
                              obtain ⟨XPow, hXPow⟩ : ∃ Z0, Z0 = wc := ⟨_, rfl⟩
                              subst hXPow
                              clear HBPow
                              have HNPow : Hid (NilAt Z1 XPow r) := hans
                              clear hans
                              go_upto_region 30 with fail
                              go_cut [136] (fun s9 wx => s9 = .bool false ∧ Slot wx r ∧ Below Z1.heap.size Z1 wx)
                              case first => as_aux_lemma =>
                                -- region 30
                                obtain ⟨gx0, gx1⟩ := HNPow.out.1
                                obtain ⟨n8, o8, l8, c8, ⟨g80, g81⟩, hi8, hf8⟩ := (HE1.out.later HNPow.out.2.2.2).v2
                                clear hi8 hf8
                                go_wp2_with (go_at_call 11; refine (is_bad n8 o8 l8 c8 12 _ (by decide)).mono ?_; rintro e y6 ⟨rfl, hb6, _⟩; have HA6 : Hid (Below XPow.heap.size XPow y6) := hb6; clear hb6)
                                go_meet
                                exact ⟨rfl, HNPow.out.2.1.at HA6.out HNPow.out.2.1.lt, HNPow.out.2.2.2.trans (HA6.out.mono HNPow.out.2.2.2.size)⟩
                              case rest => as_aux_lemma =>
                                obtain ⟨rfl, hsl, hbZ⟩ := hcut
                                obtain ⟨YRoot, hYRoot⟩ : ∃ Z0, Z0 = wc := ⟨_, rfl⟩
                                subst hYRoot
                                have HBRoot : Hid (Slot YRoot r ∧ Below Z1.heap.size Z1 YRoot) := ⟨hsl, hbZ⟩
                                clear hsl hbZ HNPow
                                go_upto_region 32 with fail
                                go_cut [14] (fun s14 wx => s14 = .int .i64 12 ∧ NilAt Z1 wx r)
                                case first => as_aux_lemma =>
                                  -- region 32
                                  obtain ⟨f0, f1, f2, f3, f4⟩ := (HE1.out.later HBRoot.out.2).p
                                  go_wp2_with (go_at_call 14; refine (root_high na ao la ca (n : Int) va _ ⟨HSG.out, (HE1.out.later HBRoot.out.2).ja⟩ (by omega) (by omega)).mono ?_; rintro e y5 ⟨rfl, hb5⟩; have HA5 : Hid (Below YRoot.heap.size YRoot y5) := hb5; obtain ⟨⟨n9, o9, l9, c9, k0, k1⟩, k2⟩ := HBRoot.out.1.at hb5 HBRoot.out.1.lt)
                                  go_meet
                                  exact ⟨rfl, ((HBRoot.out.1.at HA5.out HBRoot.out.1.lt).put _ _ _ _).2, ((HBRoot.out.1.at HA5.out HBRoot.out.1.lt).put _ _ _ _).1, hrK, below_store (HBRoot.out.2.trans (HA5.out.mono HBRoot.out.2.size)) hrK _ _⟩
                                case rest => as_aux_lemma =>
                                  obtain ⟨rfl, hans⟩ := hcut
                                  obtain ⟨XRoot, hXRoot⟩ : ∃ Z0, Z0 = wc := ⟨_, rfl⟩
                                  subst hXRoot
                                  clear HBRoot
                                  have HNRoot : Hid (NilAt Z1 XRoot r) := hans
                                  clear hans
                                  go_upto_region 33 with fail
                                  go_cut [150] (fun s9 wx => s9 = .bool false ∧ Slot wx r ∧ Below Z1.heap.size Z1 wx)
                                  case first => as_aux_lemma =>
                                    -- region 33
                                    obtain ⟨gx0, gx1⟩ := HNRoot.out.1
                                    obtain ⟨n8, o8, l8, c8, ⟨g80, g81⟩, hi8, hf8⟩ := (HE1.out.later HNRoot.out.2.2.2).v3
                                    clear hi8 hf8
                                    go_wp2_with (go_at_call 11; refine (is_bad n8 o8 l8 c8 12 _ (by decide)).mono ?_; rintro e y6 ⟨rfl, hb6, _⟩; have HA6 : Hid (Below XRoot.heap.size XRoot y6) := hb6; clear hb6)
                                    go_meet
                                    exact ⟨rfl, HNRoot.out.2.1.at HA6.out HNRoot.out.2.1.lt, HNRoot.out.2.2.2.trans (HA6.out.mono HNRoot.out.2.2.2.size)⟩
                                  case rest => as_aux_lemma =>
                                    obtain ⟨rfl, hsl, hbZ⟩ := hcut
                                    obtain ⟨YEnd, hYEnd⟩ : ∃ Z0, Z0 = wc := ⟨_, rfl⟩
                                    subst hYEnd
                                    have HBEnd : Hid (Slot YEnd r ∧ Below Z1.heap.size Z1 YEnd) := ⟨hsl, hbZ⟩
                                    clear hsl hbZ HNRoot
                                    go_wp2
                                    go_roundw
                                    case rel => exact ⟨k + 1, by omega, by omega, by go_num, HE1.out.bw.trans (HBEnd.out.2.mono HE1.out.bw.size)⟩
                                    case measure => simp [intOf]; omega
            · by_cases c3 : 64 < (n : Int)
              · as_aux_lemma =>
                go_upto_region 7 with (go_at_call 4; rw [← hT.eq]; refine (hcon _).mono ?_; rintro e w1 ⟨rfl, hb1⟩; have HV : Hid (Five w1 wr.heap.size na nb ao bo la ca lb cb (n : Int) ∧ RowAt w1 .u64 ao la ca (mag va.natAbs) ∧ Below w.heap.size w w1 ∧ wr.heap.size < w1.heap.size) := ⟨hT.p.later hb1 (by omega), HX.out.1.later hb1, bnext hbW hb1, (by have := hb1.size; omega)⟩; clear hb1 h0 h1 h2 h3 h4)
                go_cut [5, 6, 7, 8] (fun s5 s6 s7 s8 wx => ∃ g, s5 = .pointer (some ⟨g, 0, none⟩) ∧ s6 = .pointer (some ⟨g + 1, 0, none⟩) ∧ s7 = .pointer (some ⟨g + 2, 0, none⟩) ∧ s8 = .pointer (some ⟨g + 3, 0, none⟩) ∧ Mv w wx wr.heap.size g na nb ao bo la ca lb cb (n : Int) (mag va.natAbs) 0 0 0 0)
                case first => as_aux_lemma =>
                  go_wp2
                  go_meet
                  exact ⟨_, rfl, rfl, rfl, rfl, Mv.new HV.out.1 HV.out.2.1 HV.out.2.2.2 HV.out.2.2.1⟩
                case rest => as_aux_lemma =>
                  obtain ⟨g, rfl, rfl, rfl, rfl, hex⟩ := hcut
                  obtain ⟨Y0, hY0⟩ : ∃ Z0, Z0 = wc := ⟨_, rfl⟩
                  subst hY0
                  have HY0 : Hid (Mv w Y0 wr.heap.size g na nb ao bo la ca lb cb (n : Int) (mag va.natAbs) 0 0 0 0) := hex
                  clear hex HV
                  go_upto_region 8 with fail
                  go_cut [9, 10, 11, 12] (fun s9 s10 s11 s12 wx => s9 = .int .i64 0 ∧ s10 = .int .i64 0 ∧ s11 = .int .i64 0 ∧ s12 = .int .i64 0 ∧ Below Y0.heap.size Y0 wx)
                  case first => as_aux_lemma =>
                    have KS : Hid (∀ w' : World, Below Y0.heap.size Y0 w' → (Below Y0.heap.size Y0 w' ∧ Five w' wr.heap.size na nb ao bo la ca lb cb (n : Int))) := fun w' h => ⟨h, (HY0.out.later h).p⟩
                    have TK : Tok 0 := ⟨trivial⟩
                    go_region_held3 (fun w' => (Below Y0.heap.size Y0 w' ∧ w'.cell? ⟨wr.heap.size, 0, none⟩ = some (.bool na) ∧ w'.cell? ⟨wr.heap.size, 1, none⟩ = some (.slice ao la ca) ∧ w'.cell? ⟨wr.heap.size, 2, none⟩ = some (.bool nb) ∧ w'.cell? ⟨wr.heap.size, 3, none⟩ = some (.slice bo lb cb) ∧ w'.cell? ⟨wr.heap.size, 4, none⟩ = some (.int .i64 (n : Int))))
                      (first
                        | exact KS.out _ (Below.refl _ _).drew
                        | assumption
                        | exact KS.out _ (by assumption))
                      (first
                        | (have _t : Tok 0 := TK; go_at_call 5; refine (one_any na nb ao bo la ca lb cb (n : Int) (mag va.natAbs) _ (HY0.out.later (Below.refl _ _).drew).ja (by omega) 0 (by rw [HM.out]; rfl)).mono ?_; rintro e y1 ⟨rfl, hb1⟩; have hB1 : Below Y0.heap.size Y0 y1 := bnext (Below.refl _ _).drew hb1; clear hb1 TK; have TK : Tok 1 := ⟨trivial⟩)
                        | (have _t : Tok 1 := TK; go_at_call 5; refine (one_any na nb ao bo la ca lb cb (n : Int) (mag va.natAbs) _ (HY0.out.later hB1).ja (by omega) 0 (by rw [HM.out]; rfl)).mono ?_; rintro e y2 ⟨rfl, hb2⟩; have hB2 : Below Y0.heap.size Y0 y2 := bnext hB1 hb2; clear hb2 TK; have TK : Tok 2 := ⟨trivial⟩)
                        | (have _t : Tok 2 := TK; go_at_call 5; refine (one_any na nb ao bo la ca lb cb (n : Int) (mag va.natAbs) _ (HY0.out.later hB2).ja (by omega) 0 (by rw [HM.out]; rfl)).mono ?_; rintro e y3 ⟨rfl, hb3⟩; have hB3 : Below Y0.heap.size Y0 y3 := bnext hB2 hb3; clear hb3 TK; have TK : Tok 3 := ⟨trivial⟩)
                        | (have _t : Tok 3 := TK; go_at_call 5; refine (one_any na nb ao bo la ca lb cb (n : Int) (mag va.natAbs) _ (HY0.out.later hB3).ja (by omega) 0 (by rw [HM.out]; rfl)).mono ?_; rintro e y4 ⟨rfl, hb4⟩; have hB4 : Below Y0.heap.size Y0 y4 := bnext hB3 hb4; clear hb4 TK; have TK : Tok 4 := ⟨trivial⟩))
                    go_wp2
                    go_meet
                    exact ⟨rfl, rfl, rfl, rfl, hB4⟩
                  case rest => as_aux_lemma =>
                    obtain ⟨rfl, rfl, rfl, rfl, hbY⟩ := hcut
                    obtain ⟨Z0, hZ0⟩ : ∃ Z0, Z0 = wc := ⟨_, rfl⟩
                    subst hZ0
                    have HE0 : Hid (Mv w Z0 wr.heap.size g na nb ao bo la ca lb cb (n : Int) (mag va.natAbs) 0 0 0 0) := HY0.out.later hbY
                    clear hbY HY0
                    obtain ⟨f0, f1, f2, f3, f4⟩ := HE0.out.p
                    go_upto_region 13 with fail
                    clear f0 f1 f2 f3 f4
                    go_cut [54] (fun s9 wx => Mv w wx wr.heap.size g na nb ao bo la ca lb cb (n : Int) (mag va.natAbs) (va * ((2 ^ n : Nat) : Int)) (0) (0) (0))
                    case first => as_aux_lemma =>
                      -- region 13
                      obtain ⟨f0, f1, f2, f3, f4⟩ := HE0.out.p
                      go_wp2_with (go_at_call 6; refine (rleft_any na ao la ca n va _ ⟨HSG.out, HE0.out.ja⟩ (by omega) (by omega)).mono ?_; rintro e y5 ⟨n5, o5, l5, c5, rfl, hs5, ho5, hb5⟩; have hi5 : IntAt y5 n5 o5 l5 c5 (va * ((2 ^ n : Nat) : Int)) := ⟨hs5, ho5.row⟩; clear hs5 ho5; have HA5 : Hid (IntAt y5 n5 o5 l5 c5 (va * ((2 ^ n : Nat) : Int)) ∧ Below Z0.heap.size Z0 y5) := ⟨hi5, hb5⟩; obtain ⟨⟨n9, o9, l9, c9, k0, k1⟩, k2⟩ := (HE0.out.v0.later hb5).slot; clear hi5)
                      go_meet
                      exact Mv.put0 HE0.out HA5.out.2 HA5.out.1
                    case rest => as_aux_lemma =>
                      have HE1 : Hid (Mv w wc wr.heap.size g na nb ao bo la ca lb cb (n : Int) (mag va.natAbs) (va * ((2 ^ n : Nat) : Int)) (0) (0) (0)) := hcut
                      clear hcut HE0
                      obtain ⟨Z1, hZ⟩ : ∃ Z0, Z0 = wc := ⟨_, rfl⟩
                      rw [← hZ] at HE1
                      rw [← hZ]
                      clear hZ
                      obtain ⟨f0, f1, f2, f3, f4⟩ := HE1.out.p
                      go_upto_region 16 with fail
                      clear f0 f1 f2 f3 f4
                      go_cut [62] (fun s9 wx => Mv w wx wr.heap.size g na nb ao bo la ca lb cb (n : Int) (mag va.natAbs) (va * ((2 ^ n : Nat) : Int)) (va / ((2 ^ n : Nat) : Int)) (0) (0))
                      case first => as_aux_lemma =>
                        -- region 16
                        obtain ⟨f0, f1, f2, f3, f4⟩ := HE1.out.p
                        go_wp2_with (go_at_call 7; refine (rright_any na ao la ca n va _ ⟨HSG.out, HE1.out.ja⟩ (by omega) (by omega)).mono ?_; rintro e y5 ⟨n5, o5, l5, c5, rfl, hi5, hb5⟩; have HA5 : Hid (IntAt y5 n5 o5 l5 c5 (va / ((2 ^ n : Nat) : Int)) ∧ Below Z1.heap.size Z1 y5) := ⟨hi5, hb5⟩; obtain ⟨⟨n9, o9, l9, c9, k0, k1⟩, k2⟩ := (HE1.out.v1.later hb5).slot; clear hi5)
                        go_meet
                        exact Mv.put1 HE1.out HA5.out.2 HA5.out.1
                      case rest => as_aux_lemma =>
                        have HE2 : Hid (Mv w wc wr.heap.size g na nb ao bo la ca lb cb (n : Int) (mag va.natAbs) (va * ((2 ^ n : Nat) : Int)) (va / ((2 ^ n : Nat) : Int)) (0) (0)) := hcut
                        clear hcut HE1
                        obtain ⟨Z2, hZ⟩ : ∃ Z0, Z0 = wc := ⟨_, rfl⟩
                        rw [← hZ] at HE2
                        rw [← hZ]
                        clear hZ
                        obtain ⟨f0, f1, f2, f3, f4⟩ := HE2.out.p
                        go_upto_region 23 with fail
                        clear f0 f1 f2 f3 f4
                        go_cut [13, 14] (fun s13 s14 wx => ∃ r, s13 = .pointer (some ⟨r, 0, none⟩) ∧ s14 = .int .i64 0 ∧ AnsAt Z2 wx r (va * ((2 ^ n : Nat) : Int)))
                        case first => as_aux_lemma =>
                          -- region 23
                          obtain ⟨f0, f1, f2, f3, f4⟩ := (HE2.out.later (Below.refl _ _)).p
                          go_wp2_with (go_at_call 10; refine (bleft_any na ao la ca n va _ ⟨HSG.out, (HE2.out.later (Below.refl _ _)).ja⟩ (by omega) (by omega)).mono ?_; rintro e y5 ⟨n5, o5, l5, c5, rfl, hs5, ho5, hb5⟩; have hl5 : l5 ≤ 100000000 := (by rw [ho5.row.hlen]; refine Nat.le_trans (len_left va n) ?_; have q2 := HLV.out; omega); have HA5 : Hid (n5 = sgB (va * ((2 ^ n : Nat) : Int)) ∧ Own Z2.heap.size y5 .u64 44 o5 l5 c5 (mag (va * ((2 ^ n : Nat) : Int)).natAbs) ∧ Below Z2.heap.size Z2 y5 ∧ l5 ≤ 100000000) := ⟨hs5, ho5, hb5, hl5⟩; clear hs5 ho5 hl5)
                          go_meet
                          exact ⟨_, rfl, rfl, _, _, _, _, _, Ans.new HA5.out.1 HA5.out.2.1 HA5.out.2.2.2, Nat.le_refl _, Nat.le_trans HA5.out.2.2.1.size (by simp), HA5.out.2.2.1.size, below_alloc HA5.out.2.2.1 (Nat.le_refl _)⟩
                        case rest => as_aux_lemma =>
                          obtain ⟨r, rfl, rfl, hans⟩ := hcut
                          obtain ⟨XLeft, hXLeft⟩ : ∃ Z0, Z0 = wc := ⟨_, rfl⟩
                          subst hXLeft
                          have HNLeft : Hid (AnsAt Z2 XLeft r (va * ((2 ^ n : Nat) : Int))) := hans
                          have hrK : Z2.heap.size ≤ r := (by obtain ⟨B, n, o, l, c, q1, q2, q3, q4, q5⟩ := hans; exact q4)
                          clear hans
                          go_upto_region 24 with fail
                          go_cut [108] (fun s9 wx => s9 = .bool false ∧ Slot wx r ∧ Below Z2.heap.size Z2 wx)
                          case first => as_aux_lemma =>
                            -- region 24
                            obtain ⟨B, n7, o7, l7, c7, q1, q2, q3, q4, q5⟩ := HNLeft.out
                            obtain ⟨gx0, gx1⟩ := q1.box
                            obtain ⟨n8, o8, l8, c8, ⟨g80, g81⟩, hi8, hf8⟩ := (HE2.out.later q5).v0
                            have HQ : Hid (Ans B XLeft r n7 o7 l7 c7 (va * ((2 ^ n : Nat) : Int)) ∧ Z2.heap.size ≤ B ∧ B ≤ XLeft.heap.size ∧ Below Z2.heap.size Z2 XLeft ∧ IntAt XLeft n8 o8 l8 c8 (va * ((2 ^ n : Nat) : Int))) := ⟨q1, q2, q3, q5, hi8⟩
                            clear q1 q2 q3 q4 q5 hi8 hf8
                            go_wp2_with (go_at_call 11; refine (is_good B n7 n8 o7 o8 l7 c7 l8 c8 (va * ((2 ^ n : Nat) : Int)) _ HQ.out.1.sg HQ.out.1.own HQ.out.2.2.1 HQ.out.2.2.2.2 (Nat.le_trans HQ.out.1.len (by decide))).mono ?_; rintro e y6 ⟨rfl, hb6, hsy⟩; have HA6 : Hid (Below B XLeft y6 ∧ Stay o7 XLeft y6) := ⟨hb6, hsy⟩; clear hb6 hsy)
                            go_meet
                            exact ⟨rfl, HQ.out.1.slot.stay HA6.out.2 HQ.out.1.off, HQ.out.2.2.2.1.trans (HA6.out.1.mono HQ.out.2.1)⟩
                          case rest => as_aux_lemma =>
                            obtain ⟨rfl, hsl, hbZ⟩ := hcut
                            obtain ⟨YRight, hYRight⟩ : ∃ Z0, Z0 = wc := ⟨_, rfl⟩
                            subst hYRight
                            have HBRight : Hid (Slot YRight r ∧ Below Z2.heap.size Z2 YRight) := ⟨hsl, hbZ⟩
                            clear hsl hbZ HNLeft
                            go_upto_region 26 with fail
                            go_cut [14] (fun s14 wx => s14 = .int .i64 0 ∧ AnsAt Z2 wx r (va / ((2 ^ n : Nat) : Int)))
                            case first => as_aux_lemma =>
                              -- region 26
                              obtain ⟨f0, f1, f2, f3, f4⟩ := (HE2.out.later HBRight.out.2).p
                              go_wp2_with (go_at_call 12; refine (bright_le na ao la ca n va _ ⟨HSG.out, (HE2.out.later HBRight.out.2).ja⟩ (by omega) (by omega)).mono ?_; rintro e y5 ⟨n5, o5, l5, c5, rfl, hs5, ho5, hb5⟩; have hl5 : l5 ≤ 100000000 := (by rw [ho5.row.hlen]; refine Nat.le_trans (len_right va n) ?_; have q2 := HLV.out; omega); have HA5 : Hid (n5 = sgB (va / ((2 ^ n : Nat) : Int)) ∧ Own YRight.heap.size y5 .u64 44 o5 l5 c5 (mag (va / ((2 ^ n : Nat) : Int)).natAbs) ∧ Below YRight.heap.size YRight y5 ∧ l5 ≤ 100000000) := ⟨hs5, ho5, hb5, hl5⟩; obtain ⟨⟨n9, o9, l9, c9, k0, k1⟩, k2⟩ := HBRight.out.1.at hb5 HBRight.out.1.lt; clear hs5 ho5 hl5)
                              go_meet
                              exact ⟨rfl, _, _, _, _, _, Ans.put (HBRight.out.1.at HA5.out.2.2.1 HBRight.out.1.lt) HBRight.out.1.lt HA5.out.1 HA5.out.2.1 HA5.out.2.2.2, HBRight.out.2.size, Nat.le_trans HA5.out.2.2.1.size (by simp [World.setCell]), hrK, below_store (HBRight.out.2.trans (HA5.out.2.2.1.mono HBRight.out.2.size)) hrK _ _⟩
                            case rest => as_aux_lemma =>
                              obtain ⟨rfl, hans⟩ := hcut
                              obtain ⟨XRight, hXRight⟩ : ∃ Z0, Z0 = wc := ⟨_, rfl⟩
                              subst hXRight
                              clear HBRight
                              have HNRight : Hid (AnsAt Z2 XRight r (va / ((2 ^ n : Nat) : Int))) := hans
                              clear hans
                              go_upto_region 27 with fail
                              go_cut [122] (fun s9 wx => s9 = .bool false ∧ Slot wx r ∧ Below Z2.heap.size Z2 wx)
                              case first => as_aux_lemma =>
                                -- region 27
                                obtain ⟨B, n7, o7, l7, c7, q1, q2, q3, q4, q5⟩ := HNRight.out
                                obtain ⟨gx0, gx1⟩ := q1.box
                                obtain ⟨n8, o8, l8, c8, ⟨g80, g81⟩, hi8, hf8⟩ := (HE2.out.later q5).v1
                                have HQ : Hid (Ans B XRight r n7 o7 l7 c7 (va / ((2 ^ n : Nat) : Int)) ∧ Z2.heap.size ≤ B ∧ B ≤ XRight.heap.size ∧ Below Z2.heap.size Z2 XRight ∧ IntAt XRight n8 o8 l8 c8 (va / ((2 ^ n : Nat) : Int))) := ⟨q1, q2, q3, q5, hi8⟩
                                clear q1 q2 q3 q4 q5 hi8 hf8
                                go_wp2_with (go_at_call 11; refine (is_good B n7 n8 o7 o8 l7 c7 l8 c8 (va / ((2 ^ n : Nat) : Int)) _ HQ.out.1.sg HQ.out.1.own HQ.out.2.2.1 HQ.out.2.2.2.2 (Nat.le_trans HQ.out.1.len (by decide))).mono ?_; rintro e y6 ⟨rfl, hb6, hsy⟩; have HA6 : Hid (Below B XRight y6 ∧ Stay o7 XRight y6) := ⟨hb6, hsy⟩; clear hb6 hsy)
                                go_meet
                                exact ⟨rfl, HQ.out.1.slot.stay HA6.out.2 HQ.out.1.off, HQ.out.2.2.2.1.trans (HA6.out.1.mono HQ.out.2.1)⟩
                              case rest => as_aux_lemma =>
                                obtain ⟨rfl, hsl, hbZ⟩ := hcut
                                obtain ⟨YPow, hYPow⟩ : ∃ Z0, Z0 = wc := ⟨_, rfl⟩
                                subst hYPow
                                have HBPow : Hid (Slot YPow r ∧ Below Z2.heap.size Z2 YPow) := ⟨hsl, hbZ⟩
                                clear hsl hbZ HNRight
                                go_upto_region 29 with fail
                                go_cut [14] (fun s14 wx => s14 = .int .i64 12 ∧ NilAt Z2 wx r)
                                case first => as_aux_lemma =>
                                  -- region 29
                                  obtain ⟨f0, f1, f2, f3, f4⟩ := (HE2.out.later HBPow.out.2).p
                                  go_wp2_with (go_at_call 13; refine (pow_high na ao la ca (n : Int) va _ ⟨HSG.out, (HE2.out.later HBPow.out.2).ja⟩ (by omega) (by omega)).mono ?_; rintro e y5 ⟨rfl, hb5⟩; have HA5 : Hid (Below YPow.heap.size YPow y5) := hb5; obtain ⟨⟨n9, o9, l9, c9, k0, k1⟩, k2⟩ := HBPow.out.1.at hb5 HBPow.out.1.lt)
                                  go_meet
                                  exact ⟨rfl, ((HBPow.out.1.at HA5.out HBPow.out.1.lt).put _ _ _ _).2, ((HBPow.out.1.at HA5.out HBPow.out.1.lt).put _ _ _ _).1, hrK, below_store (HBPow.out.2.trans (HA5.out.mono HBPow.out.2.size)) hrK _ _⟩
                                case rest => as_aux_lemma =>
                                  obtain ⟨rfl, hans⟩ := hcut
                                  obtain ⟨XPow, hXPow⟩ : ∃ Z0, Z0 = wc := ⟨_, rfl⟩
                                  subst hXPow
                                  clear HBPow
                                  have HNPow : Hid (NilAt Z2 XPow r) := hans
                                  clear hans
                                  go_upto_region 30 with fail
                                  go_cut [136] (fun s9 wx => s9 = .bool false ∧ Slot wx r ∧ Below Z2.heap.size Z2 wx)
                                  case first => as_aux_lemma =>
                                    -- region 30
                                    obtain ⟨gx0, gx1⟩ := HNPow.out.1
                                    obtain ⟨n8, o8, l8, c8, ⟨g80, g81⟩, hi8, hf8⟩ := (HE2.out.later HNPow.out.2.2.2).v2
                                    clear hi8 hf8
                                    go_wp2_with (go_at_call 11; refine (is_bad n8 o8 l8 c8 12 _ (by decide)).mono ?_; rintro e y6 ⟨rfl, hb6, _⟩; have HA6 : Hid (Below XPow.heap.size XPow y6) := hb6; clear hb6)
                                    go_meet
                                    exact ⟨rfl, HNPow.out.2.1.at HA6.out HNPow.out.2.1.lt, HNPow.out.2.2.2.trans (HA6.out.mono HNPow.out.2.2.2.size)⟩
                                  case rest => as_aux_lemma =>
                                    obtain ⟨rfl, hsl, hbZ⟩ := hcut
                                    obtain ⟨YRoot, hYRoot⟩ : ∃ Z0, Z0 = wc := ⟨_, rfl⟩
                                    subst hYRoot
                                    have HBRoot : Hid (Slot YRoot r ∧ Below Z2.heap.size Z2 YRoot) := ⟨hsl, hbZ⟩
                                    clear hsl hbZ HNPow
                                    go_upto_region 32 with fail
                                    go_cut [14] (fun s14 wx => s14 = .int .i64 12 ∧ NilAt Z2 wx r)
                                    case first => as_aux_lemma =>
                                      -- region 32
                                      obtain ⟨f0, f1, f2, f3, f4⟩ := (HE2.out.later HBRoot.out.2).p
                                      go_wp2_with (go_at_call 14; refine (root_high na ao la ca (n : Int) va _ ⟨HSG.out, (HE2.out.later HBRoot.out.2).ja⟩ (by omega) (by omega)).mono ?_; rintro e y5 ⟨rfl, hb5⟩; have HA5 : Hid (Below YRoot.heap.size YRoot y5) := hb5; obtain ⟨⟨n9, o9, l9, c9, k0, k1⟩, k2⟩ := HBRoot.out.1.at hb5 HBRoot.out.1.lt)
                                      go_meet
                                      exact ⟨rfl, ((HBRoot.out.1.at HA5.out HBRoot.out.1.lt).put _ _ _ _).2, ((HBRoot.out.1.at HA5.out HBRoot.out.1.lt).put _ _ _ _).1, hrK, below_store (HBRoot.out.2.trans (HA5.out.mono HBRoot.out.2.size)) hrK _ _⟩
                                    case rest => as_aux_lemma =>
                                      obtain ⟨rfl, hans⟩ := hcut
                                      obtain ⟨XRoot, hXRoot⟩ : ∃ Z0, Z0 = wc := ⟨_, rfl⟩
                                      subst hXRoot
                                      clear HBRoot
                                      have HNRoot : Hid (NilAt Z2 XRoot r) := hans
                                      clear hans
                                      go_upto_region 33 with fail
                                      go_cut [150] (fun s9 wx => s9 = .bool false ∧ Slot wx r ∧ Below Z2.heap.size Z2 wx)
                                      case first => as_aux_lemma =>
                                        -- region 33
                                        obtain ⟨gx0, gx1⟩ := HNRoot.out.1
                                        obtain ⟨n8, o8, l8, c8, ⟨g80, g81⟩, hi8, hf8⟩ := (HE2.out.later HNRoot.out.2.2.2).v3
                                        clear hi8 hf8
                                        go_wp2_with (go_at_call 11; refine (is_bad n8 o8 l8 c8 12 _ (by decide)).mono ?_; rintro e y6 ⟨rfl, hb6, _⟩; have HA6 : Hid (Below XRoot.heap.size XRoot y6) := hb6; clear hb6)
                                        go_meet
                                        exact ⟨rfl, HNRoot.out.2.1.at HA6.out HNRoot.out.2.1.lt, HNRoot.out.2.2.2.trans (HA6.out.mono HNRoot.out.2.2.2.size)⟩
                                      case rest => as_aux_lemma =>
                                        obtain ⟨rfl, hsl, hbZ⟩ := hcut
                                        obtain ⟨YEnd, hYEnd⟩ : ∃ Z0, Z0 = wc := ⟨_, rfl⟩
                                        subst hYEnd
                                        have HBEnd : Hid (Slot YEnd r ∧ Below Z2.heap.size Z2 YEnd) := ⟨hsl, hbZ⟩
                                        clear hsl hbZ HNRoot
                                        go_wp2
                                        go_roundw
                                        case rel => exact ⟨k + 1, by omega, by omega, by go_num, HE2.out.bw.trans (HBEnd.out.2.mono HE2.out.bw.size)⟩
                                        case measure => simp [intOf]; omega
              · have HPW : Hid ((mag (va.natAbs ^ (n / 2))).length < 4000 ∧ (mag (va.natAbs ^ n)).length < 8000) := ⟨(by have q1 := mag_len_pow va.natAbs (n / 2); have h1 : (mag va.natAbs).length * (n / 2) ≤ 4 * 64 := Nat.mul_le_mul HLV.out (by omega); omega), (by have q1 := mag_len_pow va.natAbs n; have h1 : (mag va.natAbs).length * n ≤ 4 * 64 := Nat.mul_le_mul HLV.out (by omega); omega)⟩
                by_cases c4 : (n : Int) < 1
                · as_aux_lemma =>
                  go_upto_region 7 with (go_at_call 4; rw [← hT.eq]; refine (hcon _).mono ?_; rintro e w1 ⟨rfl, hb1⟩; have HV : Hid (Five w1 wr.heap.size na nb ao bo la ca lb cb (n : Int) ∧ RowAt w1 .u64 ao la ca (mag va.natAbs) ∧ Below w.heap.size w w1 ∧ wr.heap.size < w1.heap.size) := ⟨hT.p.later hb1 (by omega), HX.out.1.later hb1, bnext hbW hb1, (by have := hb1.size; omega)⟩; clear hb1 h0 h1 h2 h3 h4)
                  go_cut [5, 6, 7, 8] (fun s5 s6 s7 s8 wx => ∃ g, s5 = .pointer (some ⟨g, 0, none⟩) ∧ s6 = .pointer (some ⟨g + 1, 0, none⟩) ∧ s7 = .pointer (some ⟨g + 2, 0, none⟩) ∧ s8 = .pointer (some ⟨g + 3, 0, none⟩) ∧ Mv w wx wr.heap.size g na nb ao bo la ca lb cb (n : Int) (mag va.natAbs) 0 0 0 0)
                  case first => as_aux_lemma =>
                    go_wp2
                    go_meet
                    exact ⟨_, rfl, rfl, rfl, rfl, Mv.new HV.out.1 HV.out.2.1 HV.out.2.2.2 HV.out.2.2.1⟩
                  case rest => as_aux_lemma =>
                    obtain ⟨g, rfl, rfl, rfl, rfl, hex⟩ := hcut
                    obtain ⟨Y0, hY0⟩ : ∃ Z0, Z0 = wc := ⟨_, rfl⟩
                    subst hY0
                    have HY0 : Hid (Mv w Y0 wr.heap.size g na nb ao bo la ca lb cb (n : Int) (mag va.natAbs) 0 0 0 0) := hex
                    clear hex HV
                    go_upto_region 8 with fail
                    go_cut [9, 10, 11, 12] (fun s9 s10 s11 s12 wx => s9 = .int .i64 0 ∧ s10 = .int .i64 0 ∧ s11 = .int .i64 0 ∧ s12 = .int .i64 0 ∧ Below Y0.heap.size Y0 wx)
                    case first => as_aux_lemma =>
                      have KS : Hid (∀ w' : World, Below Y0.heap.size Y0 w' → (Below Y0.heap.size Y0 w' ∧ Five w' wr.heap.size na nb ao bo la ca lb cb (n : Int))) := fun w' h => ⟨h, (HY0.out.later h).p⟩
                      have TK : Tok 0 := ⟨trivial⟩
                      go_region_held3 (fun w' => (Below Y0.heap.size Y0 w' ∧ w'.cell? ⟨wr.heap.size, 0, none⟩ = some (.bool na) ∧ w'.cell? ⟨wr.heap.size, 1, none⟩ = some (.slice ao la ca) ∧ w'.cell? ⟨wr.heap.size, 2, none⟩ = some (.bool nb) ∧ w'.cell? ⟨wr.heap.size, 3, none⟩ = some (.slice bo lb cb) ∧ w'.cell? ⟨wr.heap.size, 4, none⟩ = some (.int .i64 (n : Int))))
                        (first
                          | exact KS.out _ (Below.refl _ _).drew
                          | assumption
                          | exact KS.out _ (by assumption))
                        (first
                          | (have _t : Tok 0 := TK; go_at_call 5; refine (one_any na nb ao bo la ca lb cb (n : Int) (mag va.natAbs) _ (HY0.out.later (Below.refl _ _).drew).ja (by omega) 0 (by rw [HM.out]; rfl)).mono ?_; rintro e y1 ⟨rfl, hb1⟩; have hB1 : Below Y0.heap.size Y0 y1 := bnext (Below.refl _ _).drew hb1; clear hb1 TK; have TK : Tok 1 := ⟨trivial⟩)
                          | (have _t : Tok 1 := TK; go_at_call 5; refine (one_any na nb ao bo la ca lb cb (n : Int) (mag va.natAbs) _ (HY0.out.later hB1).ja (by omega) 0 (by rw [HM.out]; rfl)).mono ?_; rintro e y2 ⟨rfl, hb2⟩; have hB2 : Below Y0.heap.size Y0 y2 := bnext hB1 hb2; clear hb2 TK; have TK : Tok 2 := ⟨trivial⟩)
                          | (have _t : Tok 2 := TK; go_at_call 5; refine (one_any na nb ao bo la ca lb cb (n : Int) (mag va.natAbs) _ (HY0.out.later hB2).ja (by omega) 0 (by rw [HM.out]; rfl)).mono ?_; rintro e y3 ⟨rfl, hb3⟩; have hB3 : Below Y0.heap.size Y0 y3 := bnext hB2 hb3; clear hb3 TK; have TK : Tok 3 := ⟨trivial⟩)
                          | (have _t : Tok 3 := TK; go_at_call 5; refine (one_any na nb ao bo la ca lb cb (n : Int) (mag va.natAbs) _ (HY0.out.later hB3).ja (by omega) 0 (by rw [HM.out]; rfl)).mono ?_; rintro e y4 ⟨rfl, hb4⟩; have hB4 : Below Y0.heap.size Y0 y4 := bnext hB3 hb4; clear hb4 TK; have TK : Tok 4 := ⟨trivial⟩))
                      go_wp2
                      go_meet
                      exact ⟨rfl, rfl, rfl, rfl, hB4⟩
                    case rest => as_aux_lemma =>
                      obtain ⟨rfl, rfl, rfl, rfl, hbY⟩ := hcut
                      obtain ⟨Z0, hZ0⟩ : ∃ Z0, Z0 = wc := ⟨_, rfl⟩
                      subst hZ0
                      have HE0 : Hid (Mv w Z0 wr.heap.size g na nb ao bo la ca lb cb (n : Int) (mag va.natAbs) 0 0 0 0) := HY0.out.later hbY
                      clear hbY HY0
                      obtain ⟨f0, f1, f2, f3, f4⟩ := HE0.out.p
                      go_upto_region 13 with fail
                      clear f0 f1 f2 f3 f4
                      go_cut [54] (fun s9 wx => Mv w wx wr.heap.size g na nb ao bo la ca lb cb (n : Int) (mag va.natAbs) (va * ((2 ^ n : Nat) : Int)) (0) (0) (0))
                      case first => as_aux_lemma =>
                        -- region 13
                        obtain ⟨f0, f1, f2, f3, f4⟩ := HE0.out.p
                        go_wp2_with (go_at_call 6; refine (rleft_any na ao la ca n va _ ⟨HSG.out, HE0.out.ja⟩ (by omega) (by omega)).mono ?_; rintro e y5 ⟨n5, o5, l5, c5, rfl, hs5, ho5, hb5⟩; have hi5 : IntAt y5 n5 o5 l5 c5 (va * ((2 ^ n : Nat) : Int)) := ⟨hs5, ho5.row⟩; clear hs5 ho5; have HA5 : Hid (IntAt y5 n5 o5 l5 c5 (va * ((2 ^ n : Nat) : Int)) ∧ Below Z0.heap.size Z0 y5) := ⟨hi5, hb5⟩; obtain ⟨⟨n9, o9, l9, c9, k0, k1⟩, k2⟩ := (HE0.out.v0.later hb5).slot; clear hi5)
                        go_meet
                        exact Mv.put0 HE0.out HA5.out.2 HA5.out.1
                      case rest => as_aux_lemma =>
                        have HE1 : Hid (Mv w wc wr.heap.size g na nb ao bo la ca lb cb (n : Int) (mag va.natAbs) (va * ((2 ^ n : Nat) : Int)) (0) (0) (0)) := hcut
                        clear hcut HE0
                        obtain ⟨Z1, hZ⟩ : ∃ Z0, Z0 = wc := ⟨_, rfl⟩
                        rw [← hZ] at HE1
                        rw [← hZ]
                        clear hZ
                        obtain ⟨f0, f1, f2, f3, f4⟩ := HE1.out.p
                        go_upto_region 16 with fail
                        clear f0 f1 f2 f3 f4
                        go_cut [62] (fun s9 wx => Mv w wx wr.heap.size g na nb ao bo la ca lb cb (n : Int) (mag va.natAbs) (va * ((2 ^ n : Nat) : Int)) (va / ((2 ^ n : Nat) : Int)) (0) (0))
                        case first => as_aux_lemma =>
                          -- region 16
                          obtain ⟨f0, f1, f2, f3, f4⟩ := HE1.out.p
                          go_wp2_with (go_at_call 7; refine (rright_any na ao la ca n va _ ⟨HSG.out, HE1.out.ja⟩ (by omega) (by omega)).mono ?_; rintro e y5 ⟨n5, o5, l5, c5, rfl, hi5, hb5⟩; have HA5 : Hid (IntAt y5 n5 o5 l5 c5 (va / ((2 ^ n : Nat) : Int)) ∧ Below Z1.heap.size Z1 y5) := ⟨hi5, hb5⟩; obtain ⟨⟨n9, o9, l9, c9, k0, k1⟩, k2⟩ := (HE1.out.v1.later hb5).slot; clear hi5)
                          go_meet
                          exact Mv.put1 HE1.out HA5.out.2 HA5.out.1
                        case rest => as_aux_lemma =>
                          have HE2 : Hid (Mv w wc wr.heap.size g na nb ao bo la ca lb cb (n : Int) (mag va.natAbs) (va * ((2 ^ n : Nat) : Int)) (va / ((2 ^ n : Nat) : Int)) (0) (0)) := hcut
                          clear hcut HE1
                          obtain ⟨Z2, hZ⟩ : ∃ Z0, Z0 = wc := ⟨_, rfl⟩
                          rw [← hZ] at HE2
                          rw [← hZ]
                          clear hZ
                          obtain ⟨f0, f1, f2, f3, f4⟩ := HE2.out.p
                          go_upto_region 19 with fail
                          clear f0 f1 f2 f3 f4
                          go_cut [75] (fun s9 wx => Mv w wx wr.heap.size g na nb ao bo la ca lb cb (n : Int) (mag va.natAbs) (va * ((2 ^ n : Nat) : Int)) (va / ((2 ^ n : Nat) : Int)) (va ^ n) (0))
                          case first => as_aux_lemma =>
                            -- region 19
                            obtain ⟨f0, f1, f2, f3, f4⟩ := HE2.out.p
                            go_wp2_with (go_at_call 8; refine (rpow_any na ao la ca n va _ ⟨HSG.out, HE2.out.ja⟩ (by omega) (by omega)).mono ?_; rintro e y5 ⟨n5, o5, l5, c5, rfl, hi5, hb5⟩; have HA5 : Hid (IntAt y5 n5 o5 l5 c5 (va ^ n) ∧ Below Z2.heap.size Z2 y5) := ⟨hi5, hb5⟩; obtain ⟨⟨n9, o9, l9, c9, k0, k1⟩, k2⟩ := (HE2.out.v2.later hb5).slot; clear hi5)
                            go_meet
                            exact Mv.put2 HE2.out HA5.out.2 HA5.out.1
                          case rest => as_aux_lemma =>
                            have HE3 : Hid (Mv w wc wr.heap.size g na nb ao bo la ca lb cb (n : Int) (mag va.natAbs) (va * ((2 ^ n : Nat) : Int)) (va / ((2 ^ n : Nat) : Int)) (va ^ n) (0)) := hcut
                            clear hcut HE2
                            obtain ⟨Z3, hZ⟩ : ∃ Z0, Z0 = wc := ⟨_, rfl⟩
                            rw [← hZ] at HE3
                            rw [← hZ]
                            clear hZ
                            obtain ⟨f0, f1, f2, f3, f4⟩ := HE3.out.p
                            go_upto_region 23 with fail
                            clear f0 f1 f2 f3 f4
                            go_cut [13, 14] (fun s13 s14 wx => ∃ r, s13 = .pointer (some ⟨r, 0, none⟩) ∧ s14 = .int .i64 0 ∧ AnsAt Z3 wx r (va * ((2 ^ n : Nat) : Int)))
                            case first => as_aux_lemma =>
                              -- region 23
                              obtain ⟨f0, f1, f2, f3, f4⟩ := (HE3.out.later (Below.refl _ _)).p
                              go_wp2_with (go_at_call 10; refine (bleft_any na ao la ca n va _ ⟨HSG.out, (HE3.out.later (Below.refl _ _)).ja⟩ (by omega) (by omega)).mono ?_; rintro e y5 ⟨n5, o5, l5, c5, rfl, hs5, ho5, hb5⟩; have hl5 : l5 ≤ 100000000 := (by rw [ho5.row.hlen]; refine Nat.le_trans (len_left va n) ?_; have q2 := HLV.out; omega); have HA5 : Hid (n5 = sgB (va * ((2 ^ n : Nat) : Int)) ∧ Own Z3.heap.size y5 .u64 44 o5 l5 c5 (mag (va * ((2 ^ n : Nat) : Int)).natAbs) ∧ Below Z3.heap.size Z3 y5 ∧ l5 ≤ 100000000) := ⟨hs5, ho5, hb5, hl5⟩; clear hs5 ho5 hl5)
                              go_meet
                              exact ⟨_, rfl, rfl, _, _, _, _, _, Ans.new HA5.out.1 HA5.out.2.1 HA5.out.2.2.2, Nat.le_refl _, Nat.le_trans HA5.out.2.2.1.size (by simp), HA5.out.2.2.1.size, below_alloc HA5.out.2.2.1 (Nat.le_refl _)⟩
                            case rest => as_aux_lemma =>
                              obtain ⟨r, rfl, rfl, hans⟩ := hcut
                              obtain ⟨XLeft, hXLeft⟩ : ∃ Z0, Z0 = wc := ⟨_, rfl⟩
                              subst hXLeft
                              have HNLeft : Hid (AnsAt Z3 XLeft r (va * ((2 ^ n : Nat) : Int))) := hans
                              have hrK : Z3.heap.size ≤ r := (by obtain ⟨B, n, o, l, c, q1, q2, q3, q4, q5⟩ := hans; exact q4)
                              clear hans
                              go_upto_region 24 with fail
                              go_cut [108] (fun s9 wx => s9 = .bool false ∧ Slot wx r ∧ Below Z3.heap.size Z3 wx)
                              case first => as_aux_lemma =>
                                -- region 24
                                obtain ⟨B, n7, o7, l7, c7, q1, q2, q3, q4, q5⟩ := HNLeft.out
                                obtain ⟨gx0, gx1⟩ := q1.box
                                obtain ⟨n8, o8, l8, c8, ⟨g80, g81⟩, hi8, hf8⟩ := (HE3.out.later q5).v0
                                have HQ : Hid (Ans B XLeft r n7 o7 l7 c7 (va * ((2 ^ n : Nat) : Int)) ∧ Z3.heap.size ≤ B ∧ B ≤ XLeft.heap.size ∧ Below Z3.heap.size Z3 XLeft ∧ IntAt XLeft n8 o8 l8 c8 (va * ((2 ^ n : Nat) : Int))) := ⟨q1, q2, q3, q5, hi8⟩
                                clear q1 q2 q3 q4 q5 hi8 hf8
                                go_wp2_with (go_at_call 11; refine (is_good B n7 n8 o7 o8 l7 c7 l8 c8 (va * ((2 ^ n : Nat) : Int)) _ HQ.out.1.sg HQ.out.1.own HQ.out.2.2.1 HQ.out.2.2.2.2 (Nat.le_trans HQ.out.1.len (by decide))).mono ?_; rintro e y6 ⟨rfl, hb6, hsy⟩; have HA6 : Hid (Below B XLeft y6 ∧ Stay o7 XLeft y6) := ⟨hb6, hsy⟩; clear hb6 hsy)
                                go_meet
                                exact ⟨rfl, HQ.out.1.slot.stay HA6.out.2 HQ.out.1.off, HQ.out.2.2.2.1.trans (HA6.out.1.mono HQ.out.2.1)⟩
                              case rest => as_aux_lemma =>
                                obtain ⟨rfl, hsl, hbZ⟩ := hcut
                                obtain ⟨YRight, hYRight⟩ : ∃ Z0, Z0 = wc := ⟨_, rfl⟩
                                subst hYRight
                                have HBRight : Hid (Slot YRight r ∧ Below Z3.heap.size Z3 YRight) := ⟨hsl, hbZ⟩
                                clear hsl hbZ HNLeft
                                go_upto_region 26 with fail
                                go_cut [14] (fun s14 wx => s14 = .int .i64 0 ∧ AnsAt Z3 wx r (va / ((2 ^ n : Nat) : Int)))
                                case first => as_aux_lemma =>
                                  -- region 26
                                  obtain ⟨f0, f1, f2, f3, f4⟩ := (HE3.out.later HBRight.out.2).p
                                  go_wp2_with (go_at_call 12; refine (bright_le na ao la ca n va _ ⟨HSG.out, (HE3.out.later HBRight.out.2).ja⟩ (by omega) (by omega)).mono ?_; rintro e y5 ⟨n5, o5, l5, c5, rfl, hs5, ho5, hb5⟩; have hl5 : l5 ≤ 100000000 := (by rw [ho5.row.hlen]; refine Nat.le_trans (len_right va n) ?_; have q2 := HLV.out; omega); have HA5 : Hid (n5 = sgB (va / ((2 ^ n : Nat) : Int)) ∧ Own YRight.heap.size y5 .u64 44 o5 l5 c5 (mag (va / ((2 ^ n : Nat) : Int)).natAbs) ∧ Below YRight.heap.size YRight y5 ∧ l5 ≤ 100000000) := ⟨hs5, ho5, hb5, hl5⟩; obtain ⟨⟨n9, o9, l9, c9, k0, k1⟩, k2⟩ := HBRight.out.1.at hb5 HBRight.out.1.lt; clear hs5 ho5 hl5)
                                  go_meet
                                  exact ⟨rfl, _, _, _, _, _, Ans.put (HBRight.out.1.at HA5.out.2.2.1 HBRight.out.1.lt) HBRight.out.1.lt HA5.out.1 HA5.out.2.1 HA5.out.2.2.2, HBRight.out.2.size, Nat.le_trans HA5.out.2.2.1.size (by simp [World.setCell]), hrK, below_store (HBRight.out.2.trans (HA5.out.2.2.1.mono HBRight.out.2.size)) hrK _ _⟩
                                case rest => as_aux_lemma =>
                                  obtain ⟨rfl, hans⟩ := hcut
                                  obtain ⟨XRight, hXRight⟩ : ∃ Z0, Z0 = wc := ⟨_, rfl⟩
                                  subst hXRight
                                  clear HBRight
                                  have HNRight : Hid (AnsAt Z3 XRight r (va / ((2 ^ n : Nat) : Int))) := hans
                                  clear hans
                                  go_upto_region 27 with fail
                                  go_cut [122] (fun s9 wx => s9 = .bool false ∧ Slot wx r ∧ Below Z3.heap.size Z3 wx)
                                  case first => as_aux_lemma =>
                                    -- region 27
                                    obtain ⟨B, n7, o7, l7, c7, q1, q2, q3, q4, q5⟩ := HNRight.out
                                    obtain ⟨gx0, gx1⟩ := q1.box
                                    obtain ⟨n8, o8, l8, c8, ⟨g80, g81⟩, hi8, hf8⟩ := (HE3.out.later q5).v1
                                    have HQ : Hid (Ans B XRight r n7 o7 l7 c7 (va / ((2 ^ n : Nat) : Int)) ∧ Z3.heap.size ≤ B ∧ B ≤ XRight.heap.size ∧ Below Z3.heap.size Z3 XRight ∧ IntAt XRight n8 o8 l8 c8 (va / ((2 ^ n : Nat) : Int))) := ⟨q1, q2, q3, q5, hi8⟩
                                    clear q1 q2 q3 q4 q5 hi8 hf8
                                    go_wp2_with (go_at_call 11; refine (is_good B n7 n8 o7 o8 l7 c7 l8 c8 (va / ((2 ^ n : Nat) : Int)) _ HQ.out.1.sg HQ.out.1.own HQ.out.2.2.1 HQ.out.2.2.2.2 (Nat.le_trans HQ.out.1.len (by decide))).mono ?_; rintro e y6 ⟨rfl, hb6, hsy⟩; have HA6 : Hid (Below B XRight y6 ∧ Stay o7 XRight y6) := ⟨hb6, hsy⟩; clear hb6 hsy)
                                    go_meet
                                    exact ⟨rfl, HQ.out.1.slot.stay HA6.out.2 HQ.out.1.off, HQ.out.2.2.2.1.trans (HA6.out.1.mono HQ.out.2.1)⟩
                                  case rest => as_aux_lemma =>
                                    obtain ⟨rfl, hsl, hbZ⟩ := hcut
                                    obtain ⟨YPow, hYPow⟩ : ∃ Z0, Z0 = wc := ⟨_, rfl⟩
                                    subst hYPow
                                    have HBPow : Hid (Slot YPow r ∧ Below Z3.heap.size Z3 YPow) := ⟨hsl, hbZ⟩
                                    clear hsl hbZ HNRight
                                    go_upto_region 29 with fail
                                    go_cut [14] (fun s14 wx => s14 = .int .i64 0 ∧ AnsAt Z3 wx r (va ^ n))
                                    case first => as_aux_lemma =>
                                      -- region 29
                                      obtain ⟨f0, f1, f2, f3, f4⟩ := (HE3.out.later HBPow.out.2).p
                                      go_wp2_with (go_at_call 13; refine (bpow_any na ao la ca n va _ ⟨HSG.out, (HE3.out.later HBPow.out.2).ja⟩ (by omega) (by omega) HPW.out.1 HPW.out.2).mono ?_; rintro e y5 ⟨n5, o5, l5, c5, rfl, hs5, ho5, hb5⟩; have hl5 : l5 ≤ 100000000 := (by rw [ho5.row.hlen]; refine Nat.le_trans (len_pow va n) ?_; have h1 : (mag va.natAbs).length * n ≤ 4 * 64 := Nat.mul_le_mul HLV.out (by omega); omega); have HA5 : Hid (n5 = sgB (va ^ n) ∧ Own YPow.heap.size y5 .u64 44 o5 l5 c5 (mag (va ^ n).natAbs) ∧ Below YPow.heap.size YPow y5 ∧ l5 ≤ 100000000) := ⟨hs5, ho5, hb5, hl5⟩; obtain ⟨⟨n9, o9, l9, c9, k0, k1⟩, k2⟩ := HBPow.out.1.at hb5 HBPow.out.1.lt; clear hs5 ho5 hl5)
                                      go_meet
                                      exact ⟨rfl, _, _, _, _, _, Ans.put (HBPow.out.1.at HA5.out.2.2.1 HBPow.out.1.lt) HBPow.out.1.lt HA5.out.1 HA5.out.2.1 HA5.out.2.2.2, HBPow.out.2.size, Nat.le_trans HA5.out.2.2.1.size (by simp [World.setCell]), hrK, below_store (HBPow.out.2.trans (HA5.out.2.2.1.mono HBPow.out.2.size)) hrK _ _⟩
                                    case rest => as_aux_lemma =>
                                      obtain ⟨rfl, hans⟩ := hcut
                                      obtain ⟨XPow, hXPow⟩ : ∃ Z0, Z0 = wc := ⟨_, rfl⟩
                                      subst hXPow
                                      clear HBPow
                                      have HNPow : Hid (AnsAt Z3 XPow r (va ^ n)) := hans
                                      clear hans
                                      go_upto_region 30 with fail
                                      go_cut [136] (fun s9 wx => s9 = .bool false ∧ Slot wx r ∧ Below Z3.heap.size Z3 wx)
                                      case first => as_aux_lemma =>
                                        -- region 30
                                        obtain ⟨B, n7, o7, l7, c7, q1, q2, q3, q4, q5⟩ := HNPow.out
                                        obtain ⟨gx0, gx1⟩ := q1.box
                                        obtain ⟨n8, o8, l8, c8, ⟨g80, g81⟩, hi8, hf8⟩ := (HE3.out.later q5).v2
                                        have HQ : Hid (Ans B XPow r n7 o7 l7 c7 (va ^ n) ∧ Z3.heap.size ≤ B ∧ B ≤ XPow.heap.size ∧ Below Z3.heap.size Z3 XPow ∧ IntAt XPow n8 o8 l8 c8 (va ^ n)) := ⟨q1, q2, q3, q5, hi8⟩
                                        clear q1 q2 q3 q4 q5 hi8 hf8
                                        go_wp2_with (go_at_call 11; refine (is_good B n7 n8 o7 o8 l7 c7 l8 c8 (va ^ n) _ HQ.out.1.sg HQ.out.1.own HQ.out.2.2.1 HQ.out.2.2.2.2 (Nat.le_trans HQ.out.1.len (by decide))).mono ?_; rintro e y6 ⟨rfl, hb6, hsy⟩; have HA6 : Hid (Below B XPow y6 ∧ Stay o7 XPow y6) := ⟨hb6, hsy⟩; clear hb6 hsy)
                                        go_meet
                                        exact ⟨rfl, HQ.out.1.slot.stay HA6.out.2 HQ.out.1.off, HQ.out.2.2.2.1.trans (HA6.out.1.mono HQ.out.2.1)⟩
                                      case rest => as_aux_lemma =>
                                        obtain ⟨rfl, hsl, hbZ⟩ := hcut
                                        obtain ⟨YRoot, hYRoot⟩ : ∃ Z0, Z0 = wc := ⟨_, rfl⟩
                                        subst hYRoot
                                        have HBRoot : Hid (Slot YRoot r ∧ Below Z3.heap.size Z3 YRoot) := ⟨hsl, hbZ⟩
                                        clear hsl hbZ HNPow
                                        go_upto_region 32 with fail
                                        go_cut [14] (fun s14 wx => s14 = .int .i64 12 ∧ NilAt Z3 wx r)
                                        case first => as_aux_lemma =>
                                          -- region 32
                                          obtain ⟨f0, f1, f2, f3, f4⟩ := (HE3.out.later HBRoot.out.2).p
                                          go_wp2_with (go_at_call 14; refine (root_low na ao la ca (n : Int) va _ ⟨HSG.out, (HE3.out.later HBRoot.out.2).ja⟩ (by omega) (by omega)).mono ?_; rintro e y5 ⟨rfl, hb5⟩; have HA5 : Hid (Below YRoot.heap.size YRoot y5) := hb5; obtain ⟨⟨n9, o9, l9, c9, k0, k1⟩, k2⟩ := HBRoot.out.1.at hb5 HBRoot.out.1.lt)
                                          go_meet
                                          exact ⟨rfl, ((HBRoot.out.1.at HA5.out HBRoot.out.1.lt).put _ _ _ _).2, ((HBRoot.out.1.at HA5.out HBRoot.out.1.lt).put _ _ _ _).1, hrK, below_store (HBRoot.out.2.trans (HA5.out.mono HBRoot.out.2.size)) hrK _ _⟩
                                        case rest => as_aux_lemma =>
                                          obtain ⟨rfl, hans⟩ := hcut
                                          obtain ⟨XRoot, hXRoot⟩ : ∃ Z0, Z0 = wc := ⟨_, rfl⟩
                                          subst hXRoot
                                          clear HBRoot
                                          have HNRoot : Hid (NilAt Z3 XRoot r) := hans
                                          clear hans
                                          go_upto_region 33 with fail
                                          go_cut [150] (fun s9 wx => s9 = .bool false ∧ Slot wx r ∧ Below Z3.heap.size Z3 wx)
                                          case first => as_aux_lemma =>
                                            -- region 33
                                            obtain ⟨gx0, gx1⟩ := HNRoot.out.1
                                            obtain ⟨n8, o8, l8, c8, ⟨g80, g81⟩, hi8, hf8⟩ := (HE3.out.later HNRoot.out.2.2.2).v3
                                            clear hi8 hf8
                                            go_wp2_with (go_at_call 11; refine (is_bad n8 o8 l8 c8 12 _ (by decide)).mono ?_; rintro e y6 ⟨rfl, hb6, _⟩; have HA6 : Hid (Below XRoot.heap.size XRoot y6) := hb6; clear hb6)
                                            go_meet
                                            exact ⟨rfl, HNRoot.out.2.1.at HA6.out HNRoot.out.2.1.lt, HNRoot.out.2.2.2.trans (HA6.out.mono HNRoot.out.2.2.2.size)⟩
                                          case rest => as_aux_lemma =>
                                            obtain ⟨rfl, hsl, hbZ⟩ := hcut
                                            obtain ⟨YEnd, hYEnd⟩ : ∃ Z0, Z0 = wc := ⟨_, rfl⟩
                                            subst hYEnd
                                            have HBEnd : Hid (Slot YEnd r ∧ Below Z3.heap.size Z3 YEnd) := ⟨hsl, hbZ⟩
                                            clear hsl hbZ HNRoot
                                            go_wp2
                                            go_roundw
                                            case rel => exact ⟨k + 1, by omega, by omega, by go_num, HE3.out.bw.trans (HBEnd.out.2.mono HE3.out.bw.size)⟩
                                            case measure => simp [intOf]; omega
                · have hn1 : 1 ≤ n := by omega
                  cases na
                  · obtain ⟨A, rfl⟩ : ∃ A : Nat, va = (A : Int) := ⟨va.natAbs, by have h := HSG.out; unfold sgB at h; have := of_decide_eq_false h.symm; omega⟩
                    as_aux_lemma =>
                    have HRW : Hid ((mag (2 ^ n * A)).length < 40) := (by show _ < _; have q1 := mag_len_mul (2 ^ n) A; have q2 := len_two64 (n := n) (by omega); have q3 := HLV.out; rw [Int.natAbs_natCast] at q3; omega)
                    go_upto_region 7 with (go_at_call 4; rw [← hT.eq]; refine (hcon _).mono ?_; rintro e w1 ⟨rfl, hb1⟩; have HV : Hid (Five w1 wr.heap.size false nb ao bo la ca lb cb (n : Int) ∧ RowAt w1 .u64 ao la ca (mag ((A : Int)).natAbs) ∧ Below w.heap.size w w1 ∧ wr.heap.size < w1.heap.size) := ⟨hT.p.later hb1 (by omega), HX.out.1.later hb1, bnext hbW hb1, (by have := hb1.size; omega)⟩; clear hb1 h0 h1 h2 h3 h4)
                    go_cut [5, 6, 7, 8] (fun s5 s6 s7 s8 wx => ∃ g, s5 = .pointer (some ⟨g, 0, none⟩) ∧ s6 = .pointer (some ⟨g + 1, 0, none⟩) ∧ s7 = .pointer (some ⟨g + 2, 0, none⟩) ∧ s8 = .pointer (some ⟨g + 3, 0, none⟩) ∧ Mv w wx wr.heap.size g false nb ao bo la ca lb cb (n : Int) (mag ((A : Int)).natAbs) 0 0 0 0)
                    case first => as_aux_lemma =>
                      go_wp2
                      go_meet
                      exact ⟨_, rfl, rfl, rfl, rfl, Mv.new HV.out.1 HV.out.2.1 HV.out.2.2.2 HV.out.2.2.1⟩
                    case rest => as_aux_lemma =>
                      obtain ⟨g, rfl, rfl, rfl, rfl, hex⟩ := hcut
                      obtain ⟨Y0, hY0⟩ : ∃ Z0, Z0 = wc := ⟨_, rfl⟩
                      subst hY0
                      have HY0 : Hid (Mv w Y0 wr.heap.size g false nb ao bo la ca lb cb (n : Int) (mag ((A : Int)).natAbs) 0 0 0 0) := hex
                      clear hex HV
                      go_upto_region 8 with fail
                      go_cut [9, 10, 11, 12] (fun s9 s10 s11 s12 wx => s9 = .int .i64 0 ∧ s10 = .int .i64 0 ∧ s11 = .int .i64 0 ∧ s12 = .int .i64 0 ∧ Below Y0.heap.size Y0 wx)
                      case first => as_aux_lemma =>
                        have KS : Hid (∀ w' : World, Below Y0.heap.size Y0 w' → (Below Y0.heap.size Y0 w' ∧ Five w' wr.heap.size false nb ao bo la ca lb cb (n : Int))) := fun w' h => ⟨h, (HY0.out.later h).p⟩
                        have TK : Tok 0 := ⟨trivial⟩
                        go_region_held3 (fun w' => (Below Y0.heap.size Y0 w' ∧ w'.cell? ⟨wr.heap.size, 0, none⟩ = some (.bool false) ∧ w'.cell? ⟨wr.heap.size, 1, none⟩ = some (.slice ao la ca) ∧ w'.cell? ⟨wr.heap.size, 2, none⟩ = some (.bool nb) ∧ w'.cell? ⟨wr.heap.size, 3, none⟩ = some (.slice bo lb cb) ∧ w'.cell? ⟨wr.heap.size, 4, none⟩ = some (.int .i64 (n : Int))))
                          (first
                            | exact KS.out _ (Below.refl _ _).drew
                            | assumption
                            | exact KS.out _ (by assumption))
                          (first
                            | (have _t : Tok 0 := TK; go_at_call 5; refine (one_any false nb ao bo la ca lb cb (n : Int) (mag ((A : Int)).natAbs) _ (HY0.out.later (Below.refl _ _).drew).ja (by omega) 0 (by rw [HM.out]; rfl)).mono ?_; rintro e y1 ⟨rfl, hb1⟩; have hB1 : Below Y0.heap.size Y0 y1 := bnext (Below.refl _ _).drew hb1; clear hb1 TK; have TK : Tok 1 := ⟨trivial⟩)
                            | (have _t : Tok 1 := TK; go_at_call 5; refine (one_any false nb ao bo la ca lb cb (n : Int) (mag ((A : Int)).natAbs) _ (HY0.out.later hB1).ja (by omega) 0 (by rw [HM.out]; rfl)).mono ?_; rintro e y2 ⟨rfl, hb2⟩; have hB2 : Below Y0.heap.size Y0 y2 := bnext hB1 hb2; clear hb2 TK; have TK : Tok 2 := ⟨trivial⟩)
                            | (have _t : Tok 2 := TK; go_at_call 5; refine (one_any false nb ao bo la ca lb cb (n : Int) (mag ((A : Int)).natAbs) _ (HY0.out.later hB2).ja (by omega) 0 (by rw [HM.out]; rfl)).mono ?_; rintro e y3 ⟨rfl, hb3⟩; have hB3 : Below Y0.heap.size Y0 y3 := bnext hB2 hb3; clear hb3 TK; have TK : Tok 3 := ⟨trivial⟩)
                            | (have _t : Tok 3 := TK; go_at_call 5; refine (one_any false nb ao bo la ca lb cb (n : Int) (mag ((A : Int)).natAbs) _ (HY0.out.later hB3).ja (by omega) 0 (by rw [HM.out]; rfl)).mono ?_; rintro e y4 ⟨rfl, hb4⟩; have hB4 : Below Y0.heap.size Y0 y4 := bnext hB3 hb4; clear hb4 TK; have TK : Tok 4 := ⟨trivial⟩))
                        go_wp2
                        go_meet
                        exact ⟨rfl, rfl, rfl, rfl, hB4⟩
                      case rest => as_aux_lemma =>
                        obtain ⟨rfl, rfl, rfl, rfl, hbY⟩ := hcut
                        obtain ⟨Z0, hZ0⟩ : ∃ Z0, Z0 = wc := ⟨_, rfl⟩
                        subst hZ0
                        have HE0 : Hid (Mv w Z0 wr.heap.size g false nb ao bo la ca lb cb (n : Int) (mag ((A : Int)).natAbs) 0 0 0 0) := HY0.out.later hbY
                        clear hbY HY0
                        obtain ⟨f0, f1, f2, f3, f4⟩ := HE0.out.p
                        go_upto_region 13 with fail
                        clear f0 f1 f2 f3 f4
                        go_cut [54] (fun s9 wx => Mv w wx wr.heap.size g false nb ao bo la ca lb cb (n : Int) (mag ((A : Int)).natAbs) ((A : Int) * ((2 ^ n : Nat) : Int)) (0) (0) (0))
                        case first => as_aux_lemma =>
                          -- region 13
                          obtain ⟨f0, f1, f2, f3, f4⟩ := HE0.out.p
                          go_wp2_with (go_at_call 6; refine (rleft_any false ao la ca n (A : Int) _ ⟨HSG.out, HE0.out.ja⟩ (by omega) (by omega)).mono ?_; rintro e y5 ⟨n5, o5, l5, c5, rfl, hs5, ho5, hb5⟩; have hi5 : IntAt y5 n5 o5 l5 c5 ((A : Int) * ((2 ^ n : Nat) : Int)) := ⟨hs5, ho5.row⟩; clear hs5 ho5; have HA5 : Hid (IntAt y5 n5 o5 l5 c5 ((A : Int) * ((2 ^ n : Nat) : Int)) ∧ Below Z0.heap.size Z0 y5) := ⟨hi5, hb5⟩; obtain ⟨⟨n9, o9, l9, c9, k0, k1⟩, k2⟩ := (HE0.out.v0.later hb5).slot; clear hi5)
                          go_meet
                          exact Mv.put0 HE0.out HA5.out.2 HA5.out.1
                        case rest => as_aux_lemma =>
                          have HE1 : Hid (Mv w wc wr.heap.size g false nb ao bo la ca lb cb (n : Int) (mag ((A : Int)).natAbs) ((A : Int) * ((2 ^ n : Nat) : Int)) (0) (0) (0)) := hcut
                          clear hcut HE0
                          obtain ⟨Z1, hZ⟩ : ∃ Z0, Z0 = wc := ⟨_, rfl⟩
                          rw [← hZ] at HE1
                          rw [← hZ]
                          clear hZ
                          obtain ⟨f0, f1, f2, f3, f4⟩ := HE1.out.p
                          go_upto_region 16 with fail
                          clear f0 f1 f2 f3 f4
                          go_cut [62] (fun s9 wx => Mv w wx wr.heap.size g false nb ao bo la ca lb cb (n : Int) (mag ((A : Int)).natAbs) ((A : Int) * ((2 ^ n : Nat) : Int)) ((A : Int) / ((2 ^ n : Nat) : Int)) (0) (0))
                          case first => as_aux_lemma =>
                            -- region 16
                            obtain ⟨f0, f1, f2, f3, f4⟩ := HE1.out.p
                            go_wp2_with (go_at_call 7; refine (rright_any false ao la ca n (A : Int) _ ⟨HSG.out, HE1.out.ja⟩ (by omega) (by omega)).mono ?_; rintro e y5 ⟨n5, o5, l5, c5, rfl, hi5, hb5⟩; have HA5 : Hid (IntAt y5 n5 o5 l5 c5 ((A : Int) / ((2 ^ n : Nat) : Int)) ∧ Below Z1.heap.size Z1 y5) := ⟨hi5, hb5⟩; obtain ⟨⟨n9, o9, l9, c9, k0, k1⟩, k2⟩ := (HE1.out.v1.later hb5).slot; clear hi5)
                            go_meet
                            exact Mv.put1 HE1.out HA5.out.2 HA5.out.1
                          case rest => as_aux_lemma =>
                            have HE2 : Hid (Mv w wc wr.heap.size g false nb ao bo la ca lb cb (n : Int) (mag ((A : Int)).natAbs) ((A : Int) * ((2 ^ n : Nat) : Int)) ((A : Int) / ((2 ^ n : Nat) : Int)) (0) (0)) := hcut
                            clear hcut HE1
                            obtain ⟨Z2, hZ⟩ : ∃ Z0, Z0 = wc := ⟨_, rfl⟩
                            rw [← hZ] at HE2
                            rw [← hZ]
                            clear hZ
                            obtain ⟨f0, f1, f2, f3, f4⟩ := HE2.out.p
                            go_upto_region 19 with fail
                            clear f0 f1 f2 f3 f4
                            go_cut [75] (fun s9 wx => Mv w wx wr.heap.size g false nb ao bo la ca lb cb (n : Int) (mag ((A : Int)).natAbs) ((A : Int) * ((2 ^ n : Nat) : Int)) ((A : Int) / ((2 ^ n : Nat) : Int)) ((A : Int) ^ n) (0))
                            case first => as_aux_lemma =>
                              -- region 19
                              obtain ⟨f0, f1, f2, f3, f4⟩ := HE2.out.p
                              go_wp2_with (go_at_call 8; refine (rpow_any false ao la ca n (A : Int) _ ⟨HSG.out, HE2.out.ja⟩ (by omega) (by omega)).mono ?_; rintro e y5 ⟨n5, o5, l5, c5, rfl, hi5, hb5⟩; have HA5 : Hid (IntAt y5 n5 o5 l5 c5 ((A : Int) ^ n) ∧ Below Z2.heap.size Z2 y5) := ⟨hi5, hb5⟩; obtain ⟨⟨n9, o9, l9, c9, k0, k1⟩, k2⟩ := (HE2.out.v2.later hb5).slot; clear hi5)
                              go_meet
                              exact Mv.put2 HE2.out HA5.out.2 HA5.out.1
                            case rest => as_aux_lemma =>
                              have HE3 : Hid (Mv w wc wr.heap.size g false nb ao bo la ca lb cb (n : Int) (mag ((A : Int)).natAbs) ((A : Int) * ((2 ^ n : Nat) : Int)) ((A : Int) / ((2 ^ n : Nat) : Int)) ((A : Int) ^ n) (0)) := hcut
                              clear hcut HE2
                              obtain ⟨Z3, hZ⟩ : ∃ Z0, Z0 = wc := ⟨_, rfl⟩
                              rw [← hZ] at HE3
                              rw [← hZ]
                              clear hZ
                              obtain ⟨f0, f1, f2, f3, f4⟩ := HE3.out.p
                              go_upto_region 22 with fail
                              clear f0 f1 f2 f3 f4
                              go_cut [94] (fun s9 wx => ∃ rt : Nat, IsRoot A n rt ∧ Mv w wx wr.heap.size g false nb ao bo la ca lb cb (n : Int) (mag ((A : Int)).natAbs) ((A : Int) * ((2 ^ n : Nat) : Int)) ((A : Int) / ((2 ^ n : Nat) : Int)) ((A : Int) ^ n) ((rt : Int)))
                              case first => as_aux_lemma =>
                                -- region 22
                                obtain ⟨f0, f1, f2, f3, f4⟩ := HE3.out.p
                                go_wp2_with (go_at_call 9; refine (rroot_any ao la ca n A _ ⟨HSG.out, HE3.out.ja⟩ (by omega) hn1 (by omega)).mono ?_; rintro e y5 ⟨rt, hrt, n5, o5, l5, c5, rfl, hi5, hb5⟩; have HA5 : Hid (IntAt y5 n5 o5 l5 c5 ((rt : Int)) ∧ Below Z3.heap.size Z3 y5) := ⟨hi5, hb5⟩; obtain ⟨⟨n9, o9, l9, c9, k0, k1⟩, k2⟩ := (HE3.out.v3.later hb5).slot; clear hi5)
                                go_meet
                                exact ⟨rt, hrt, Mv.put3 HE3.out HA5.out.2 HA5.out.1⟩
                              case rest => as_aux_lemma =>
                                obtain ⟨rt, hrt, hcut⟩ := hcut
                                have HRT : Hid (IsRoot A n rt) := hrt
                                clear hrt
                                have HE4 : Hid (Mv w wc wr.heap.size g false nb ao bo la ca lb cb (n : Int) (mag ((A : Int)).natAbs) ((A : Int) * ((2 ^ n : Nat) : Int)) ((A : Int) / ((2 ^ n : Nat) : Int)) ((A : Int) ^ n) ((rt : Int))) := hcut
                                clear hcut HE3
                                obtain ⟨Z4, hZ⟩ : ∃ Z0, Z0 = wc := ⟨_, rfl⟩
                                rw [← hZ] at HE4
                                rw [← hZ]
                                clear hZ
                                obtain ⟨f0, f1, f2, f3, f4⟩ := HE4.out.p
                                go_upto_region 23 with fail
                                clear f0 f1 f2 f3 f4
                                go_cut [13, 14] (fun s13 s14 wx => ∃ r, s13 = .pointer (some ⟨r, 0, none⟩) ∧ s14 = .int .i64 0 ∧ AnsAt Z4 wx r ((A : Int) * ((2 ^ n : Nat) : Int)))
                                case first => as_aux_lemma =>
                                  -- region 23
                                  obtain ⟨f0, f1, f2, f3, f4⟩ := (HE4.out.later (Below.refl _ _)).p
                                  go_wp2_with (go_at_call 10; refine (bleft_any false ao la ca n (A : Int) _ ⟨HSG.out, (HE4.out.later (Below.refl _ _)).ja⟩ (by omega) (by omega)).mono ?_; rintro e y5 ⟨n5, o5, l5, c5, rfl, hs5, ho5, hb5⟩; have hl5 : l5 ≤ 100000000 := (by rw [ho5.row.hlen]; refine Nat.le_trans (len_left (A : Int) n) ?_; have q2 := HLV.out; omega); have HA5 : Hid (n5 = sgB ((A : Int) * ((2 ^ n : Nat) : Int)) ∧ Own Z4.heap.size y5 .u64 44 o5 l5 c5 (mag ((A : Int) * ((2 ^ n : Nat) : Int)).natAbs) ∧ Below Z4.heap.size Z4 y5 ∧ l5 ≤ 100000000) := ⟨hs5, ho5, hb5, hl5⟩; clear hs5 ho5 hl5)
                                  go_meet
                                  exact ⟨_, rfl, rfl, _, _, _, _, _, Ans.new HA5.out.1 HA5.out.2.1 HA5.out.2.2.2, Nat.le_refl _, Nat.le_trans HA5.out.2.2.1.size (by simp), HA5.out.2.2.1.size, below_alloc HA5.out.2.2.1 (Nat.le_refl _)⟩
                                case rest => as_aux_lemma =>
                                  obtain ⟨r, rfl, rfl, hans⟩ := hcut
                                  obtain ⟨XLeft, hXLeft⟩ : ∃ Z0, Z0 = wc := ⟨_, rfl⟩
                                  subst hXLeft
                                  have HNLeft : Hid (AnsAt Z4 XLeft r ((A : Int) * ((2 ^ n : Nat) : Int))) := hans
                                  have hrK : Z4.heap.size ≤ r := (by obtain ⟨B, n, o, l, c, q1, q2, q3, q4, q5⟩ := hans; exact q4)
                                  clear hans
                                  go_upto_region 24 with fail
                                  go_cut [108] (fun s9 wx => s9 = .bool false ∧ Slot wx r ∧ Below Z4.heap.size Z4 wx)
                                  case first => as_aux_lemma =>
                                    -- region 24
                                    obtain ⟨B, n7, o7, l7, c7, q1, q2, q3, q4, q5⟩ := HNLeft.out
                                    obtain ⟨gx0, gx1⟩ := q1.box
                                    obtain ⟨n8, o8, l8, c8, ⟨g80, g81⟩, hi8, hf8⟩ := (HE4.out.later q5).v0
                                    have HQ : Hid (Ans B XLeft r n7 o7 l7 c7 ((A : Int) * ((2 ^ n : Nat) : Int)) ∧ Z4.heap.size ≤ B ∧ B ≤ XLeft.heap.size ∧ Below Z4.heap.size Z4 XLeft ∧ IntAt XLeft n8 o8 l8 c8 ((A : Int) * ((2 ^ n : Nat) : Int))) := ⟨q1, q2, q3, q5, hi8⟩
                                    clear q1 q2 q3 q4 q5 hi8 hf8
                                    go_wp2_with (go_at_call 11; refine (is_good B n7 n8 o7 o8 l7 c7 l8 c8 ((A : Int) * ((2 ^ n : Nat) : Int)) _ HQ.out.1.sg HQ.out.1.own HQ.out.2.2.1 HQ.out.2.2.2.2 (Nat.le_trans HQ.out.1.len (by decide))).mono ?_; rintro e y6 ⟨rfl, hb6, hsy⟩; have HA6 : Hid (Below B XLeft y6 ∧ Stay o7 XLeft y6) := ⟨hb6, hsy⟩; clear hb6 hsy)
                                    go_meet
                                    exact ⟨rfl, HQ.out.1.slot.stay HA6.out.2 HQ.out.1.off, HQ.out.2.2.2.1.trans (HA6.out.1.mono HQ.out.2.1)⟩
                                  case rest => as_aux_lemma =>
                                    obtain ⟨rfl, hsl, hbZ⟩ := hcut
                                    obtain ⟨YRight, hYRight⟩ : ∃ Z0, Z0 = wc := ⟨_, rfl⟩
                                    subst hYRight
                                    have HBRight : Hid (Slot YRight r ∧ Below Z4.heap.size Z4 YRight) := ⟨hsl, hbZ⟩
                                    clear hsl hbZ HNLeft
                                    go_upto_region 26 with fail
                                    go_cut [14] (fun s14 wx => s14 = .int .i64 0 ∧ AnsAt Z4 wx r ((A : Int) / ((2 ^ n : Nat) : Int)))
                                    case first => as_aux_lemma =>
                                      -- region 26
                                      obtain ⟨f0, f1, f2, f3, f4⟩ := (HE4.out.later HBRight.out.2).p
                                      go_wp2_with (go_at_call 12; refine (bright_le false ao la ca n (A : Int) _ ⟨HSG.out, (HE4.out.later HBRight.out.2).ja⟩ (by omega) (by omega)).mono ?_; rintro e y5 ⟨n5, o5, l5, c5, rfl, hs5, ho5, hb5⟩; have hl5 : l5 ≤ 100000000 := (by rw [ho5.row.hlen]; refine Nat.le_trans (len_right (A : Int) n) ?_; have q2 := HLV.out; omega); have HA5 : Hid (n5 = sgB ((A : Int) / ((2 ^ n : Nat) : Int)) ∧ Own YRight.heap.size y5 .u64 44 o5 l5 c5 (mag ((A : Int) / ((2 ^ n : Nat) : Int)).natAbs) ∧ Below YRight.heap.size YRight y5 ∧ l5 ≤ 100000000) := ⟨hs5, ho5, hb5, hl5⟩; obtain ⟨⟨n9, o9, l9, c9, k0, k1⟩, k2⟩ := HBRight.out.1.at hb5 HBRight.out.1.lt; clear hs5 ho5 hl5)
                                      go_meet
                                      exact ⟨rfl, _, _, _, _, _, Ans.put (HBRight.out.1.at HA5.out.2.2.1 HBRight.out.1.lt) HBRight.out.1.lt HA5.out.1 HA5.out.2.1 HA5.out.2.2.2, HBRight.out.2.size, Nat.le_trans HA5.out.2.2.1.size (by simp [World.setCell]), hrK, below_store (HBRight.out.2.trans (HA5.out.2.2.1.mono HBRight.out.2.size)) hrK _ _⟩
                                    case rest => as_aux_lemma =>
                                      obtain ⟨rfl, hans⟩ := hcut
                                      obtain ⟨XRight, hXRight⟩ : ∃ Z0, Z0 = wc := ⟨_, rfl⟩
                                      subst hXRight
                                      clear HBRight
                                      have HNRight : Hid (AnsAt Z4 XRight r ((A : Int) / ((2 ^ n : Nat) : Int))) := hans
                                      clear hans
                                      go_upto_region 27 with fail
                                      go_cut [122] (fun s9 wx => s9 = .bool false ∧ Slot wx r ∧ Below Z4.heap.size Z4 wx)
                                      case first => as_aux_lemma =>
                                        -- region 27
                                        obtain ⟨B, n7, o7, l7, c7, q1, q2, q3, q4, q5⟩ := HNRight.out
                                        obtain ⟨gx0, gx1⟩ := q1.box
                                        obtain ⟨n8, o8, l8, c8, ⟨g80, g81⟩, hi8, hf8⟩ := (HE4.out.later q5).v1
                                        have HQ : Hid (Ans B XRight r n7 o7 l7 c7 ((A : Int) / ((2 ^ n : Nat) : Int)) ∧ Z4.heap.size ≤ B ∧ B ≤ XRight.heap.size ∧ Below Z4.heap.size Z4 XRight ∧ IntAt XRight n8 o8 l8 c8 ((A : Int) / ((2 ^ n : Nat) : Int))) := ⟨q1, q2, q3, q5, hi8⟩
                                        clear q1 q2 q3 q4 q5 hi8 hf8
                                        go_wp2_with (go_at_call 11; refine (is_good B n7 n8 o7 o8 l7 c7 l8 c8 ((A : Int) / ((2 ^ n : Nat) : Int)) _ HQ.out.1.sg HQ.out.1.own HQ.out.2.2.1 HQ.out.2.2.2.2 (Nat.le_trans HQ.out.1.len (by decide))).mono ?_; rintro e y6 ⟨rfl, hb6, hsy⟩; have HA6 : Hid (Below B XRight y6 ∧ Stay o7 XRight y6) := ⟨hb6, hsy⟩; clear hb6 hsy)
                                        go_meet
                                        exact ⟨rfl, HQ.out.1.slot.stay HA6.out.2 HQ.out.1.off, HQ.out.2.2.2.1.trans (HA6.out.1.mono HQ.out.2.1)⟩
                                      case rest => as_aux_lemma =>
                                        obtain ⟨rfl, hsl, hbZ⟩ := hcut
                                        obtain ⟨YPow, hYPow⟩ : ∃ Z0, Z0 = wc := ⟨_, rfl⟩
                                        subst hYPow
                                        have HBPow : Hid (Slot YPow r ∧ Below Z4.heap.size Z4 YPow) := ⟨hsl, hbZ⟩
                                        clear hsl hbZ HNRight
                                        go_upto_region 29 with fail
                                        go_cut [14] (fun s14 wx => s14 = .int .i64 0 ∧ AnsAt Z4 wx r ((A : Int) ^ n))
                                        case first => as_aux_lemma =>
                                          -- region 29
                                          obtain ⟨f0, f1, f2, f3, f4⟩ := (HE4.out.later HBPow.out.2).p
                                          go_wp2_with (go_at_call 13; refine (bpow_any false ao la ca n (A : Int) _ ⟨HSG.out, (HE4.out.later HBPow.out.2).ja⟩ (by omega) (by omega) HPW.out.1 HPW.out.2).mono ?_; rintro e y5 ⟨n5, o5, l5, c5, rfl, hs5, ho5, hb5⟩; have hl5 : l5 ≤ 100000000 := (by rw [ho5.row.hlen]; refine Nat.le_trans (len_pow (A : Int) n) ?_; have h1 : (mag (A : Int).natAbs).length * n ≤ 4 * 64 := Nat.mul_le_mul HLV.out (by omega); omega); have HA5 : Hid (n5 = sgB ((A : Int) ^ n) ∧ Own YPow.heap.size y5 .u64 44 o5 l5 c5 (mag ((A : Int) ^ n).natAbs) ∧ Below YPow.heap.size YPow y5 ∧ l5 ≤ 100000000) := ⟨hs5, ho5, hb5, hl5⟩; obtain ⟨⟨n9, o9, l9, c9, k0, k1⟩, k2⟩ := HBPow.out.1.at hb5 HBPow.out.1.lt; clear hs5 ho5 hl5)
                                          go_meet
                                          exact ⟨rfl, _, _, _, _, _, Ans.put (HBPow.out.1.at HA5.out.2.2.1 HBPow.out.1.lt) HBPow.out.1.lt HA5.out.1 HA5.out.2.1 HA5.out.2.2.2, HBPow.out.2.size, Nat.le_trans HA5.out.2.2.1.size (by simp [World.setCell]), hrK, below_store (HBPow.out.2.trans (HA5.out.2.2.1.mono HBPow.out.2.size)) hrK _ _⟩
                                        case rest => as_aux_lemma =>
                                          obtain ⟨rfl, hans⟩ := hcut
                                          obtain ⟨XPow, hXPow⟩ : ∃ Z0, Z0 = wc := ⟨_, rfl⟩
                                          subst hXPow
                                          clear HBPow
                                          have HNPow : Hid (AnsAt Z4 XPow r ((A : Int) ^ n)) := hans
                                          clear hans
                                          go_upto_region 30 with fail
                                          go_cut [136] (fun s9 wx => s9 = .bool false ∧ Slot wx r ∧ Below Z4.heap.size Z4 wx)
                                          case first => as_aux_lemma =>
                                            -- region 30
                                            obtain ⟨B, n7, o7, l7, c7, q1, q2, q3, q4, q5⟩ := HNPow.out
                                            obtain ⟨gx0, gx1⟩ := q1.box
                                            obtain ⟨n8, o8, l8, c8, ⟨g80, g81⟩, hi8, hf8⟩ := (HE4.out.later q5).v2
                                            have HQ : Hid (Ans B XPow r n7 o7 l7 c7 ((A : Int) ^ n) ∧ Z4.heap.size ≤ B ∧ B ≤ XPow.heap.size ∧ Below Z4.heap.size Z4 XPow ∧ IntAt XPow n8 o8 l8 c8 ((A : Int) ^ n)) := ⟨q1, q2, q3, q5, hi8⟩
                                            clear q1 q2 q3 q4 q5 hi8 hf8
                                            go_wp2_with (go_at_call 11; refine (is_good B n7 n8 o7 o8 l7 c7 l8 c8 ((A : Int) ^ n) _ HQ.out.1.sg HQ.out.1.own HQ.out.2.2.1 HQ.out.2.2.2.2 (Nat.le_trans HQ.out.1.len (by decide))).mono ?_; rintro e y6 ⟨rfl, hb6, hsy⟩; have HA6 : Hid (Below B XPow y6 ∧ Stay o7 XPow y6) := ⟨hb6, hsy⟩; clear hb6 hsy)
                                            go_meet
                                            exact ⟨rfl, HQ.out.1.slot.stay HA6.out.2 HQ.out.1.off, HQ.out.2.2.2.1.trans (HA6.out.1.mono HQ.out.2.1)⟩
                                          case rest => as_aux_lemma =>
                                            obtain ⟨rfl, hsl, hbZ⟩ := hcut
                                            obtain ⟨YRoot, hYRoot⟩ : ∃ Z0, Z0 = wc := ⟨_, rfl⟩
                                            subst hYRoot
                                            have HBRoot : Hid (Slot YRoot r ∧ Below Z4.heap.size Z4 YRoot) := ⟨hsl, hbZ⟩
                                            clear hsl hbZ HNPow
                                            go_upto_region 32 with fail
                                            go_cut [14] (fun s14 wx => s14 = .int .i64 0 ∧ AnsAt Z4 wx r ((rt : Int)))
                                            case first => as_aux_lemma =>
                                              -- region 32
                                              obtain ⟨f0, f1, f2, f3, f4⟩ := (HE4.out.later HBRoot.out.2).p
                                              go_wp2_with (go_at_call 14; refine (broot_small ao la ca n A _ ⟨HSG.out, (HE4.out.later HBRoot.out.2).ja⟩ hn1 (by omega) HRW.out).mono ?_; rintro e y5 ⟨rr, hir, n5, o5, l5, c5, rfl, hs5, ho5, hb5⟩; obtain rfl := root_unique HRT.out hir; have hl5 : l5 ≤ 100000000 := (by rw [ho5.row.hlen, Int.natAbs_natCast]; have q1 := mag_len_mono (root_below hn1 HRT.out); have q2 := HLV.out; rw [Int.natAbs_natCast] at q2; omega); have HA5 : Hid (n5 = sgB ((rt : Int)) ∧ Own YRoot.heap.size y5 .u64 44 o5 l5 c5 (mag ((rt : Int)).natAbs) ∧ Below YRoot.heap.size YRoot y5 ∧ l5 ≤ 100000000) := ⟨hs5, ho5, hb5, hl5⟩; obtain ⟨⟨n9, o9, l9, c9, k0, k1⟩, k2⟩ := HBRoot.out.1.at hb5 HBRoot.out.1.lt; clear hs5 ho5 hl5)
                                              go_meet
                                              exact ⟨rfl, _, _, _, _, _, Ans.put (HBRoot.out.1.at HA5.out.2.2.1 HBRoot.out.1.lt) HBRoot.out.1.lt HA5.out.1 HA5.out.2.1 HA5.out.2.2.2, HBRoot.out.2.size, Nat.le_trans HA5.out.2.2.1.size (by simp [World.setCell]), hrK, below_store (HBRoot.out.2.trans (HA5.out.2.2.1.mono HBRoot.out.2.size)) hrK _ _⟩
                                            case rest => as_aux_lemma =>
                                              obtain ⟨rfl, hans⟩ := hcut
                                              obtain ⟨XRoot, hXRoot⟩ : ∃ Z0, Z0 = wc := ⟨_, rfl⟩
                                              subst hXRoot
                                              clear HBRoot
                                              have HNRoot : Hid (AnsAt Z4 XRoot r ((rt : Int))) := hans
                                              clear hans
                                              go_upto_region 33 with fail
                                              go_cut [150] (fun s9 wx => s9 = .bool false ∧ Slot wx r ∧ Below Z4.heap.size Z4 wx)
                                              case first => as_aux_lemma =>
                                                -- region 33
                                                obtain ⟨B, n7, o7, l7, c7, q1, q2, q3, q4, q5⟩ := HNRoot.out
                                                obtain ⟨gx0, gx1⟩ := q1.box
                                                obtain ⟨n8, o8, l8, c8, ⟨g80, g81⟩, hi8, hf8⟩ := (HE4.out.later q5).v3
                                                have HQ : Hid (Ans B XRoot r n7 o7 l7 c7 ((rt : Int)) ∧ Z4.heap.size ≤ B ∧ B ≤ XRoot.heap.size ∧ Below Z4.heap.size Z4 XRoot ∧ IntAt XRoot n8 o8 l8 c8 ((rt : Int))) := ⟨q1, q2, q3, q5, hi8⟩
                                                clear q1 q2 q3 q4 q5 hi8 hf8
                                                go_wp2_with (go_at_call 11; refine (is_good B n7 n8 o7 o8 l7 c7 l8 c8 ((rt : Int)) _ HQ.out.1.sg HQ.out.1.own HQ.out.2.2.1 HQ.out.2.2.2.2 (Nat.le_trans HQ.out.1.len (by decide))).mono ?_; rintro e y6 ⟨rfl, hb6, hsy⟩; have HA6 : Hid (Below B XRoot y6 ∧ Stay o7 XRoot y6) := ⟨hb6, hsy⟩; clear hb6 hsy)
                                                go_meet
                                                exact ⟨rfl, HQ.out.1.slot.stay HA6.out.2 HQ.out.1.off, HQ.out.2.2.2.1.trans (HA6.out.1.mono HQ.out.2.1)⟩
                                              case rest => as_aux_lemma =>
                                                obtain ⟨rfl, hsl, hbZ⟩ := hcut
                                                obtain ⟨YEnd, hYEnd⟩ : ∃ Z0, Z0 = wc := ⟨_, rfl⟩
                                                subst hYEnd
                                                have HBEnd : Hid (Slot YEnd r ∧ Below Z4.heap.size Z4 YEnd) := ⟨hsl, hbZ⟩
                                                clear hsl hbZ HNRoot
                                                go_wp2
                                                go_roundw
                                                case rel => exact ⟨k + 1, by omega, by omega, by go_num, HE4.out.bw.trans (HBEnd.out.2.mono HE4.out.bw.size)⟩
                                                case measure => simp [intOf]; omega
                  · as_aux_lemma =>
                    go_upto_region 7 with (go_at_call 4; rw [← hT.eq]; refine (hcon _).mono ?_; rintro e w1 ⟨rfl, hb1⟩; have HV : Hid (Five w1 wr.heap.size true nb ao bo la ca lb cb (n : Int) ∧ RowAt w1 .u64 ao la ca (mag va.natAbs) ∧ Below w.heap.size w w1 ∧ wr.heap.size < w1.heap.size) := ⟨hT.p.later hb1 (by omega), HX.out.1.later hb1, bnext hbW hb1, (by have := hb1.size; omega)⟩; clear hb1 h0 h1 h2 h3 h4)
                    go_cut [5, 6, 7, 8] (fun s5 s6 s7 s8 wx => ∃ g, s5 = .pointer (some ⟨g, 0, none⟩) ∧ s6 = .pointer (some ⟨g + 1, 0, none⟩) ∧ s7 = .pointer (some ⟨g + 2, 0, none⟩) ∧ s8 = .pointer (some ⟨g + 3, 0, none⟩) ∧ Mv w wx wr.heap.size g true nb ao bo la ca lb cb (n : Int) (mag va.natAbs) 0 0 0 0)
                    case first => as_aux_lemma =>
                      go_wp2
                      go_meet
                      exact ⟨_, rfl, rfl, rfl, rfl, Mv.new HV.out.1 HV.out.2.1 HV.out.2.2.2 HV.out.2.2.1⟩
                    case rest => as_aux_lemma =>
                      obtain ⟨g, rfl, rfl, rfl, rfl, hex⟩ := hcut
                      obtain ⟨Y0, hY0⟩ : ∃ Z0, Z0 = wc := ⟨_, rfl⟩
                      subst hY0
                      have HY0 : Hid (Mv w Y0 wr.heap.size g true nb ao bo la ca lb cb (n : Int) (mag va.natAbs) 0 0 0 0) := hex
                      clear hex HV
                      go_upto_region 8 with fail
                      go_cut [9, 10, 11, 12] (fun s9 s10 s11 s12 wx => s9 = .int .i64 0 ∧ s10 = .int .i64 0 ∧ s11 = .int .i64 0 ∧ s12 = .int .i64 0 ∧ Below Y0.heap.size Y0 wx)
                      case first => as_aux_lemma =>
                        have KS : Hid (∀ w' : World, Below Y0.heap.size Y0 w' → (Below Y0.heap.size Y0 w' ∧ Five w' wr.heap.size true nb ao bo la ca lb cb (n : Int))) := fun w' h => ⟨h, (HY0.out.later h).p⟩
                        have TK : Tok 0 := ⟨trivial⟩
                        go_region_held3 (fun w' => (Below Y0.heap.size Y0 w' ∧ w'.cell? ⟨wr.heap.size, 0, none⟩ = some (.bool true) ∧ w'.cell? ⟨wr.heap.size, 1, none⟩ = some (.slice ao la ca) ∧ w'.cell? ⟨wr.heap.size, 2, none⟩ = some (.bool nb) ∧ w'.cell? ⟨wr.heap.size, 3, none⟩ = some (.slice bo lb cb) ∧ w'.cell? ⟨wr.heap.size, 4, none⟩ = some (.int .i64 (n : Int))))
                          (first
                            | exact KS.out _ (Below.refl _ _).drew
                            | assumption
                            | exact KS.out _ (by assumption))
                          (first
                            | (have _t : Tok 0 := TK; go_at_call 5; refine (one_any true nb ao bo la ca lb cb (n : Int) (mag va.natAbs) _ (HY0.out.later (Below.refl _ _).drew).ja (by omega) 0 (by rw [HM.out]; rfl)).mono ?_; rintro e y1 ⟨rfl, hb1⟩; have hB1 : Below Y0.heap.size Y0 y1 := bnext (Below.refl _ _).drew hb1; clear hb1 TK; have TK : Tok 1 := ⟨trivial⟩)
                            | (have _t : Tok 1 := TK; go_at_call 5; refine (one_any true nb ao bo la ca lb cb (n : Int) (mag va.natAbs) _ (HY0.out.later hB1).ja (by omega) 0 (by rw [HM.out]; rfl)).mono ?_; rintro e y2 ⟨rfl, hb2⟩; have hB2 : Below Y0.heap.size Y0 y2 := bnext hB1 hb2; clear hb2 TK; have TK : Tok 2 := ⟨trivial⟩)
                            | (have _t : Tok 2 := TK; go_at_call 5; refine (one_any true nb ao bo la ca lb cb (n : Int) (mag va.natAbs) _ (HY0.out.later hB2).ja (by omega) 0 (by rw [HM.out]; rfl)).mono ?_; rintro e y3 ⟨rfl, hb3⟩; have hB3 : Below Y0.heap.size Y0 y3 := bnext hB2 hb3; clear hb3 TK; have TK : Tok 3 := ⟨trivial⟩)
                            | (have _t : Tok 3 := TK; go_at_call 5; refine (one_any true nb ao bo la ca lb cb (n : Int) (mag va.natAbs) _ (HY0.out.later hB3).ja (by omega) 0 (by rw [HM.out]; rfl)).mono ?_; rintro e y4 ⟨rfl, hb4⟩; have hB4 : Below Y0.heap.size Y0 y4 := bnext hB3 hb4; clear hb4 TK; have TK : Tok 4 := ⟨trivial⟩))
                        go_wp2
                        go_meet
                        exact ⟨rfl, rfl, rfl, rfl, hB4⟩
                      case rest => as_aux_lemma =>
                        obtain ⟨rfl, rfl, rfl, rfl, hbY⟩ := hcut
                        obtain ⟨Z0, hZ0⟩ : ∃ Z0, Z0 = wc := ⟨_, rfl⟩
                        subst hZ0
                        have HE0 : Hid (Mv w Z0 wr.heap.size g true nb ao bo la ca lb cb (n : Int) (mag va.natAbs) 0 0 0 0) := HY0.out.later hbY
                        clear hbY HY0
                        obtain ⟨f0, f1, f2, f3, f4⟩ := HE0.out.p
                        go_upto_region 13 with fail
                        clear f0 f1 f2 f3 f4
                        go_cut [54] (fun s9 wx => Mv w wx wr.heap.size g true nb ao bo la ca lb cb (n : Int) (mag va.natAbs) (va * ((2 ^ n : Nat) : Int)) (0) (0) (0))
                        case first => as_aux_lemma =>
                          -- region 13
                          obtain ⟨f0, f1, f2, f3, f4⟩ := HE0.out.p
                          go_wp2_with (go_at_call 6; refine (rleft_any true ao la ca n va _ ⟨HSG.out, HE0.out.ja⟩ (by omega) (by omega)).mono ?_; rintro e y5 ⟨n5, o5, l5, c5, rfl, hs5, ho5, hb5⟩; have hi5 : IntAt y5 n5 o5 l5 c5 (va * ((2 ^ n : Nat) : Int)) := ⟨hs5, ho5.row⟩; clear hs5 ho5; have HA5 : Hid (IntAt y5 n5 o5 l5 c5 (va * ((2 ^ n : Nat) : Int)) ∧ Below Z0.heap.size Z0 y5) := ⟨hi5, hb5⟩; obtain ⟨⟨n9, o9, l9, c9, k0, k1⟩, k2⟩ := (HE0.out.v0.later hb5).slot; clear hi5)
                          go_meet
                          exact Mv.put0 HE0.out HA5.out.2 HA5.out.1
                        case rest => as_aux_lemma =>
                          have HE1 : Hid (Mv w wc wr.heap.size g true nb ao bo la ca lb cb (n : Int) (mag va.natAbs) (va * ((2 ^ n : Nat) : Int)) (0) (0) (0)) := hcut
                          clear hcut HE0
                          obtain ⟨Z1, hZ⟩ : ∃ Z0, Z0 = wc := ⟨_, rfl⟩
                          rw [← hZ] at HE1
                          rw [← hZ]
                          clear hZ
                          obtain ⟨f0, f1, f2, f3, f4⟩ := HE1.out.p
                          go_upto_region 16 with fail
                          clear f0 f1 f2 f3 f4
                          go_cut [62] (fun s9 wx => Mv w wx wr.heap.size g true nb ao bo la ca lb cb (n : Int) (mag va.natAbs) (va * ((2 ^ n : Nat) : Int)) (va / ((2 ^ n : Nat) : Int)) (0) (0))
                          case first => as_aux_lemma =>
                            -- region 16
                            obtain ⟨f0, f1, f2, f3, f4⟩ := HE1.out.p
                            go_wp2_with (go_at_call 7; refine (rright_any true ao la ca n va _ ⟨HSG.out, HE1.out.ja⟩ (by omega) (by omega)).mono ?_; rintro e y5 ⟨n5, o5, l5, c5, rfl, hi5, hb5⟩; have HA5 : Hid (IntAt y5 n5 o5 l5 c5 (va / ((2 ^ n : Nat) : Int)) ∧ Below Z1.heap.size Z1 y5) := ⟨hi5, hb5⟩; obtain ⟨⟨n9, o9, l9, c9, k0, k1⟩, k2⟩ := (HE1.out.v1.later hb5).slot; clear hi5)
                            go_meet
                            exact Mv.put1 HE1.out HA5.out.2 HA5.out.1
                          case rest => as_aux_lemma =>
                            have HE2 : Hid (Mv w wc wr.heap.size g true nb ao bo la ca lb cb (n : Int) (mag va.natAbs) (va * ((2 ^ n : Nat) : Int)) (va / ((2 ^ n : Nat) : Int)) (0) (0)) := hcut
                            clear hcut HE1
                            obtain ⟨Z2, hZ⟩ : ∃ Z0, Z0 = wc := ⟨_, rfl⟩
                            rw [← hZ] at HE2
                            rw [← hZ]
                            clear hZ
                            obtain ⟨f0, f1, f2, f3, f4⟩ := HE2.out.p
                            go_upto_region 19 with fail
                            clear f0 f1 f2 f3 f4
                            go_cut [75] (fun s9 wx => Mv w wx wr.heap.size g true nb ao bo la ca lb cb (n : Int) (mag va.natAbs) (va * ((2 ^ n : Nat) : Int)) (va / ((2 ^ n : Nat) : Int)) (va ^ n) (0))
                            case first => as_aux_lemma =>
                              -- region 19
                              obtain ⟨f0, f1, f2, f3, f4⟩ := HE2.out.p
                              go_wp2_with (go_at_call 8; refine (rpow_any true ao la ca n va _ ⟨HSG.out, HE2.out.ja⟩ (by omega) (by omega)).mono ?_; rintro e y5 ⟨n5, o5, l5, c5, rfl, hi5, hb5⟩; have HA5 : Hid (IntAt y5 n5 o5 l5 c5 (va ^ n) ∧ Below Z2.heap.size Z2 y5) := ⟨hi5, hb5⟩; obtain ⟨⟨n9, o9, l9, c9, k0, k1⟩, k2⟩ := (HE2.out.v2.later hb5).slot; clear hi5)
                              go_meet
                              exact Mv.put2 HE2.out HA5.out.2 HA5.out.1
                            case rest => as_aux_lemma =>
                              have HE3 : Hid (Mv w wc wr.heap.size g true nb ao bo la ca lb cb (n : Int) (mag va.natAbs) (va * ((2 ^ n : Nat) : Int)) (va / ((2 ^ n : Nat) : Int)) (va ^ n) (0)) := hcut
                              clear hcut HE2
                              obtain ⟨Z3, hZ⟩ : ∃ Z0, Z0 = wc := ⟨_, rfl⟩
                              rw [← hZ] at HE3
                              rw [← hZ]
                              clear hZ
                              obtain ⟨f0, f1, f2, f3, f4⟩ := HE3.out.p
                              go_upto_region 23 with fail
                              clear f0 f1 f2 f3 f4
                              go_cut [13, 14] (fun s13 s14 wx => ∃ r, s13 = .pointer (some ⟨r, 0, none⟩) ∧ s14 = .int .i64 0 ∧ AnsAt Z3 wx r (va * ((2 ^ n : Nat) : Int)))
                              case first => as_aux_lemma =>
                                -- region 23
                                obtain ⟨f0, f1, f2, f3, f4⟩ := (HE3.out.later (Below.refl _ _)).p
                                go_wp2_with (go_at_call 10; refine (bleft_any true ao la ca n va _ ⟨HSG.out, (HE3.out.later (Below.refl _ _)).ja⟩ (by omega) (by omega)).mono ?_; rintro e y5 ⟨n5, o5, l5, c5, rfl, hs5, ho5, hb5⟩; have hl5 : l5 ≤ 100000000 := (by rw [ho5.row.hlen]; refine Nat.le_trans (len_left va n) ?_; have q2 := HLV.out; omega); have HA5 : Hid (n5 = sgB (va * ((2 ^ n : Nat) : Int)) ∧ Own Z3.heap.size y5 .u64 44 o5 l5 c5 (mag (va * ((2 ^ n : Nat) : Int)).natAbs) ∧ Below Z3.heap.size Z3 y5 ∧ l5 ≤ 100000000) := ⟨hs5, ho5, hb5, hl5⟩; clear hs5 ho5 hl5)
                                go_meet
                                exact ⟨_, rfl, rfl, _, _, _, _, _, Ans.new HA5.out.1 HA5.out.2.1 HA5.out.2.2.2, Nat.le_refl _, Nat.le_trans HA5.out.2.2.1.size (by simp), HA5.out.2.2.1.size, below_alloc HA5.out.2.2.1 (Nat.le_refl _)⟩
                              case rest => as_aux_lemma =>
                                obtain ⟨r, rfl, rfl, hans⟩ := hcut
                                obtain ⟨XLeft, hXLeft⟩ : ∃ Z0, Z0 = wc := ⟨_, rfl⟩
                                subst hXLeft
                                have HNLeft : Hid (AnsAt Z3 XLeft r (va * ((2 ^ n : Nat) : Int))) := hans
                                have hrK : Z3.heap.size ≤ r := (by obtain ⟨B, n, o, l, c, q1, q2, q3, q4, q5⟩ := hans; exact q4)
                                clear hans
                                go_upto_region 24 with fail
                                go_cut [108] (fun s9 wx => s9 = .bool false ∧ Slot wx r ∧ Below Z3.heap.size Z3 wx)
                                case first => as_aux_lemma =>
                                  -- region 24
                                  obtain ⟨B, n7, o7, l7, c7, q1, q2, q3, q4, q5⟩ := HNLeft.out
                                  obtain ⟨gx0, gx1⟩ := q1.box
                                  obtain ⟨n8, o8, l8, c8, ⟨g80, g81⟩, hi8, hf8⟩ := (HE3.out.later q5).v0
                                  have HQ : Hid (Ans B XLeft r n7 o7 l7 c7 (va * ((2 ^ n : Nat) : Int)) ∧ Z3.heap.size ≤ B ∧ B ≤ XLeft.heap.size ∧ Below Z3.heap.size Z3 XLeft ∧ IntAt XLeft n8 o8 l8 c8 (va * ((2 ^ n : Nat) : Int))) := ⟨q1, q2, q3, q5, hi8⟩
                                  clear q1 q2 q3 q4 q5 hi8 hf8
                                  go_wp2_with (go_at_call 11; refine (is_good B n7 n8 o7 o8 l7 c7 l8 c8 (va * ((2 ^ n : Nat) : Int)) _ HQ.out.1.sg HQ.out.1.own HQ.out.2.2.1 HQ.out.2.2.2.2 (Nat.le_trans HQ.out.1.len (by decide))).mono ?_; rintro e y6 ⟨rfl, hb6, hsy⟩; have HA6 : Hid (Below B XLeft y6 ∧ Stay o7 XLeft y6) := ⟨hb6, hsy⟩; clear hb6 hsy)
                                  go_meet
                                  exact ⟨rfl, HQ.out.1.slot.stay HA6.out.2 HQ.out.1.off, HQ.out.2.2.2.1.trans (HA6.out.1.mono HQ.out.2.1)⟩
                                case rest => as_aux_lemma =>
                                  obtain ⟨rfl, hsl, hbZ⟩ := hcut
                                  obtain ⟨YRight, hYRight⟩ : ∃ Z0, Z0 = wc := ⟨_, rfl⟩
                                  subst hYRight
                                  have HBRight : Hid (Slot YRight r ∧ Below Z3.heap.size Z3 YRight) := ⟨hsl, hbZ⟩
                                  clear hsl hbZ HNLeft
                                  go_upto_region 26 with fail
                                  go_cut [14] (fun s14 wx => s14 = .int .i64 0 ∧ AnsAt Z3 wx r (va / ((2 ^ n : Nat) : Int)))
                                  case first => as_aux_lemma =>
                                    -- region 26
                                    obtain ⟨f0, f1, f2, f3, f4⟩ := (HE3.out.later HBRight.out.2).p
                                    go_wp2_with (go_at_call 12; refine (bright_le true ao la ca n va _ ⟨HSG.out, (HE3.out.later HBRight.out.2).ja⟩ (by omega) (by omega)).mono ?_; rintro e y5 ⟨n5, o5, l5, c5, rfl, hs5, ho5, hb5⟩; have hl5 : l5 ≤ 100000000 := (by rw [ho5.row.hlen]; refine Nat.le_trans (len_right va n) ?_; have q2 := HLV.out; omega); have HA5 : Hid (n5 = sgB (va / ((2 ^ n : Nat) : Int)) ∧ Own YRight.heap.size y5 .u64 44 o5 l5 c5 (mag (va / ((2 ^ n : Nat) : Int)).natAbs) ∧ Below YRight.heap.size YRight y5 ∧ l5 ≤ 100000000) := ⟨hs5, ho5, hb5, hl5⟩; obtain ⟨⟨n9, o9, l9, c9, k0, k1⟩, k2⟩ := HBRight.out.1.at hb5 HBRight.out.1.lt; clear hs5 ho5 hl5)
                                    go_meet
                                    exact ⟨rfl, _, _, _, _, _, Ans.put (HBRight.out.1.at HA5.out.2.2.1 HBRight.out.1.lt) HBRight.out.1.lt HA5.out.1 HA5.out.2.1 HA5.out.2.2.2, HBRight.out.2.size, Nat.le_trans HA5.out.2.2.1.size (by simp [World.setCell]), hrK, below_store (HBRight.out.2.trans (HA5.out.2.2.1.mono HBRight.out.2.size)) hrK _ _⟩
                                  case rest => as_aux_lemma =>
                                    obtain ⟨rfl, hans⟩ := hcut
                                    obtain ⟨XRight, hXRight⟩ : ∃ Z0, Z0 = wc := ⟨_, rfl⟩
                                    subst hXRight
                                    clear HBRight
                                    have HNRight : Hid (AnsAt Z3 XRight r (va / ((2 ^ n : Nat) : Int))) := hans
                                    clear hans
                                    go_upto_region 27 with fail
                                    go_cut [122] (fun s9 wx => s9 = .bool false ∧ Slot wx r ∧ Below Z3.heap.size Z3 wx)
                                    case first => as_aux_lemma =>
                                      -- region 27
                                      obtain ⟨B, n7, o7, l7, c7, q1, q2, q3, q4, q5⟩ := HNRight.out
                                      obtain ⟨gx0, gx1⟩ := q1.box
                                      obtain ⟨n8, o8, l8, c8, ⟨g80, g81⟩, hi8, hf8⟩ := (HE3.out.later q5).v1
                                      have HQ : Hid (Ans B XRight r n7 o7 l7 c7 (va / ((2 ^ n : Nat) : Int)) ∧ Z3.heap.size ≤ B ∧ B ≤ XRight.heap.size ∧ Below Z3.heap.size Z3 XRight ∧ IntAt XRight n8 o8 l8 c8 (va / ((2 ^ n : Nat) : Int))) := ⟨q1, q2, q3, q5, hi8⟩
                                      clear q1 q2 q3 q4 q5 hi8 hf8
                                      go_wp2_with (go_at_call 11; refine (is_good B n7 n8 o7 o8 l7 c7 l8 c8 (va / ((2 ^ n : Nat) : Int)) _ HQ.out.1.sg HQ.out.1.own HQ.out.2.2.1 HQ.out.2.2.2.2 (Nat.le_trans HQ.out.1.len (by decide))).mono ?_; rintro e y6 ⟨rfl, hb6, hsy⟩; have HA6 : Hid (Below B XRight y6 ∧ Stay o7 XRight y6) := ⟨hb6, hsy⟩; clear hb6 hsy)
                                      go_meet
                                      exact ⟨rfl, HQ.out.1.slot.stay HA6.out.2 HQ.out.1.off, HQ.out.2.2.2.1.trans (HA6.out.1.mono HQ.out.2.1)⟩
                                    case rest => as_aux_lemma =>
                                      obtain ⟨rfl, hsl, hbZ⟩ := hcut
                                      obtain ⟨YPow, hYPow⟩ : ∃ Z0, Z0 = wc := ⟨_, rfl⟩
                                      subst hYPow
                                      have HBPow : Hid (Slot YPow r ∧ Below Z3.heap.size Z3 YPow) := ⟨hsl, hbZ⟩
                                      clear hsl hbZ HNRight
                                      go_upto_region 29 with fail
                                      go_cut [14] (fun s14 wx => s14 = .int .i64 0 ∧ AnsAt Z3 wx r (va ^ n))
                                      case first => as_aux_lemma =>
                                        -- region 29
                                        obtain ⟨f0, f1, f2, f3, f4⟩ := (HE3.out.later HBPow.out.2).p
                                        go_wp2_with (go_at_call 13; refine (bpow_any true ao la ca n va _ ⟨HSG.out, (HE3.out.later HBPow.out.2).ja⟩ (by omega) (by omega) HPW.out.1 HPW.out.2).mono ?_; rintro e y5 ⟨n5, o5, l5, c5, rfl, hs5, ho5, hb5⟩; have hl5 : l5 ≤ 100000000 := (by rw [ho5.row.hlen]; refine Nat.le_trans (len_pow va n) ?_; have h1 : (mag va.natAbs).length * n ≤ 4 * 64 := Nat.mul_le_mul HLV.out (by omega); omega); have HA5 : Hid (n5 = sgB (va ^ n) ∧ Own YPow.heap.size y5 .u64 44 o5 l5 c5 (mag (va ^ n).natAbs) ∧ Below YPow.heap.size YPow y5 ∧ l5 ≤ 100000000) := ⟨hs5, ho5, hb5, hl5⟩; obtain ⟨⟨n9, o9, l9, c9, k0, k1⟩, k2⟩ := HBPow.out.1.at hb5 HBPow.out.1.lt; clear hs5 ho5 hl5)
                                        go_meet
                                        exact ⟨rfl, _, _, _, _, _, Ans.put (HBPow.out.1.at HA5.out.2.2.1 HBPow.out.1.lt) HBPow.out.1.lt HA5.out.1 HA5.out.2.1 HA5.out.2.2.2, HBPow.out.2.size, Nat.le_trans HA5.out.2.2.1.size (by simp [World.setCell]), hrK, below_store (HBPow.out.2.trans (HA5.out.2.2.1.mono HBPow.out.2.size)) hrK _ _⟩
                                      case rest => as_aux_lemma =>
                                        obtain ⟨rfl, hans⟩ := hcut
                                        obtain ⟨XPow, hXPow⟩ : ∃ Z0, Z0 = wc := ⟨_, rfl⟩
                                        subst hXPow
                                        clear HBPow
                                        have HNPow : Hid (AnsAt Z3 XPow r (va ^ n)) := hans
                                        clear hans
                                        go_upto_region 30 with fail
                                        go_cut [136] (fun s9 wx => s9 = .bool false ∧ Slot wx r ∧ Below Z3.heap.size Z3 wx)
                                        case first => as_aux_lemma =>
                                          -- region 30
                                          obtain ⟨B, n7, o7, l7, c7, q1, q2, q3, q4, q5⟩ := HNPow.out
                                          obtain ⟨gx0, gx1⟩ := q1.box
                                          obtain ⟨n8, o8, l8, c8, ⟨g80, g81⟩, hi8, hf8⟩ := (HE3.out.later q5).v2
                                          have HQ : Hid (Ans B XPow r n7 o7 l7 c7 (va ^ n) ∧ Z3.heap.size ≤ B ∧ B ≤ XPow.heap.size ∧ Below Z3.heap.size Z3 XPow ∧ IntAt XPow n8 o8 l8 c8 (va ^ n)) := ⟨q1, q2, q3, q5, hi8⟩
                                          clear q1 q2 q3 q4 q5 hi8 hf8
                                          go_wp2_with (go_at_call 11; refine (is_good B n7 n8 o7 o8 l7 c7 l8 c8 (va ^ n) _ HQ.out.1.sg HQ.out.1.own HQ.out.2.2.1 HQ.out.2.2.2.2 (Nat.le_trans HQ.out.1.len (by decide))).mono ?_; rintro e y6 ⟨rfl, hb6, hsy⟩; have HA6 : Hid (Below B XPow y6 ∧ Stay o7 XPow y6) := ⟨hb6, hsy⟩; clear hb6 hsy)
                                          go_meet
                                          exact ⟨rfl, HQ.out.1.slot.stay HA6.out.2 HQ.out.1.off, HQ.out.2.2.2.1.trans (HA6.out.1.mono HQ.out.2.1)⟩
                                        case rest => as_aux_lemma =>
                                          obtain ⟨rfl, hsl, hbZ⟩ := hcut
                                          obtain ⟨YRoot, hYRoot⟩ : ∃ Z0, Z0 = wc := ⟨_, rfl⟩
                                          subst hYRoot
                                          have HBRoot : Hid (Slot YRoot r ∧ Below Z3.heap.size Z3 YRoot) := ⟨hsl, hbZ⟩
                                          clear hsl hbZ HNPow
                                          go_upto_region 32 with fail
                                          go_cut [14] (fun s14 wx => s14 = .int .i64 12 ∧ NilAt Z3 wx r)
                                          case first => as_aux_lemma =>
                                            -- region 32
                                            obtain ⟨f0, f1, f2, f3, f4⟩ := (HE3.out.later HBRoot.out.2).p
                                            go_wp2_with (go_at_call 14; refine (root_neg ao la ca (n : Int) va _ ⟨HSG.out, (HE3.out.later HBRoot.out.2).ja⟩ (by omega) (by omega) (by omega)).mono ?_; rintro e y5 ⟨rfl, hb5⟩; have HA5 : Hid (Below YRoot.heap.size YRoot y5) := hb5; obtain ⟨⟨n9, o9, l9, c9, k0, k1⟩, k2⟩ := HBRoot.out.1.at hb5 HBRoot.out.1.lt)
                                            go_meet
                                            exact ⟨rfl, ((HBRoot.out.1.at HA5.out HBRoot.out.1.lt).put _ _ _ _).2, ((HBRoot.out.1.at HA5.out HBRoot.out.1.lt).put _ _ _ _).1, hrK, below_store (HBRoot.out.2.trans (HA5.out.mono HBRoot.out.2.size)) hrK _ _⟩
                                          case rest => as_aux_lemma =>
                                            obtain ⟨rfl, hans⟩ := hcut
                                            obtain ⟨XRoot, hXRoot⟩ : ∃ Z0, Z0 = wc := ⟨_, rfl⟩
                                            subst hXRoot
                                            clear HBRoot
                                            have HNRoot : Hid (NilAt Z3 XRoot r) := hans
                                            clear hans
                                            go_upto_region 33 with fail
                                            go_cut [150] (fun s9 wx => s9 = .bool false ∧ Slot wx r ∧ Below Z3.heap.size Z3 wx)
                                            case first => as_aux_lemma =>
                                              -- region 33
                                              obtain ⟨gx0, gx1⟩ := HNRoot.out.1
                                              obtain ⟨n8, o8, l8, c8, ⟨g80, g81⟩, hi8, hf8⟩ := (HE3.out.later HNRoot.out.2.2.2).v3
                                              clear hi8 hf8
                                              go_wp2_with (go_at_call 11; refine (is_bad n8 o8 l8 c8 12 _ (by decide)).mono ?_; rintro e y6 ⟨rfl, hb6, _⟩; have HA6 : Hid (Below XRoot.heap.size XRoot y6) := hb6; clear hb6)
                                              go_meet
                                              exact ⟨rfl, HNRoot.out.2.1.at HA6.out HNRoot.out.2.1.lt, HNRoot.out.2.2.2.trans (HA6.out.mono HNRoot.out.2.2.2.size)⟩
                                            case rest => as_aux_lemma =>
                                              obtain ⟨rfl, hsl, hbZ⟩ := hcut
                                              obtain ⟨YEnd, hYEnd⟩ : ∃ Z0, Z0 = wc := ⟨_, rfl⟩
                                              subst hYEnd
                                              have HBEnd : Hid (Slot YEnd r ∧ Below Z3.heap.size Z3 YEnd) := ⟨hsl, hbZ⟩
                                              clear hsl hbZ HNRoot
                                              go_wp2
                                              go_roundw
                                              case rel => exact ⟨k + 1, by omega, by omega, by go_num, HE3.out.bw.trans (HBEnd.out.2.mono HE3.out.bw.size)⟩
                                              case measure => simp [intOf]; omega
    · as_aux_lemma =>
      by_cases he : k < len
      · have h40 : k = 40 := by omega
        subst h40
        go_wp2_with (go_at_call 15; refine (wakes_any _).mono ?_; rintro e w1 ⟨rfl, hb1⟩)
        go_ret
        exact ⟨rfl, bnext hbel hb1⟩
      · go_wp2_with (go_at_call 15; refine (wakes_any _).mono ?_; rintro e w1 ⟨rfl, hb1⟩)
        go_ret
        exact ⟨rfl, bnext hbel hb1⟩
end Go.Proofs.Ytmjbmgjegiimfaa
