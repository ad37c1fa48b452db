/-
  BigExact: the walk.
-/
import Derived.Test.YtmjbmgjegiimfaaDoorHK
import Derived.Deep.DeepCutAuto
namespace Go.Proofs.YtmjbmgjegiimfaaDoor
open Go.RowKit
set_option linter.unusedVariables false
set_option linter.unusedSimpArgs false

set_option maxRecDepth 100000 in
set_option maxHeartbeats 40000000 in
theorem bigExact_any (lo : Option Addr) (len cap : Nat) (w : World) (hE : ElemsAt w lo len) (hl : len ≤ 9223372036854775807) (hT0 : TabAt 0 Lib.deBruijn64tab w) :
    Calls Tryd.prog 3 #[.slice lo len cap] w fun e w' => e = .returned (.bool true) ∧ Below w.heap.size w w' := by
  have HTB : Hid (TabAt 0 Lib.deBruijn64tab w) := hT0
  clear hT0
  go_enter Tryd.func3, Tryd.ntmps3
  go_wp2
  go_loopw [3] (fun i wr => ∃ k : Nat, k ≤ len ∧ k ≤ 40 ∧ i = .int .i64 k ∧ Below w.heap.size w wr) (fun i _ => 40 - (intOf i).toNat)
  case atStart => exact ⟨0, Nat.zero_le _, by omega, rfl, Below.refl _ _⟩
  case round =>
    obtain ⟨k, hk, hk40, rfl, hbel⟩ := hrel
    by_cases hlt : k < len ∧ k < 40
    · obtain ⟨hlt, hlt40⟩ := hlt
      obtain ⟨b, off, rfl, hbw, hel⟩ := hE k hlt
      obtain ⟨na, nb, ao, bo, la, ca, lb, cb, N, x, y, ⟨h0, h1, h2, h3, h4⟩, hx, wx, hy, wy, hn1, hn2⟩ := hel.later hbel hbw
      have hbr : b < wr.heap.size := Nat.lt_of_lt_of_le hbw hbel.size
      obtain ⟨W, hT⟩ := In5.mk' wr na nb ao bo la ca lb cb N
      have hsz := hT.size
      have hbW : Below w.heap.size w W := bnext hbel hT.below
      have HX : Hid (RowAt W .u64 ao la ca x ∧ Wd 18446744073709551616 x ∧ RowAt W .u64 bo lb cb y ∧ Wd 18446744073709551616 y) := ⟨hx.later hT.below, wx, hy.later hT.below, wy⟩
      clear hx hy wx wy hel
      cases hhv : (decide (30 < (la : Int)) || decide (30 < (lb : Int)))
      · have HH : Hid ((decide (30 < (la : Int)) || decide (30 < (lb : Int))) = false) := hhv
        have hla : la ≤ 30 := by simp at hhv; omega
        have hlb : lb ≤ 30 := by simp at hhv; omega
        clear hhv
        cases hm : (mayB na x && mayB nb y)
        · as_aux_lemma =>
          have HM : Hid ((mayB na x && mayB nb y) = false) := hm
          clear hm
          go_upto_region 10 with (first
            | (go_at_call 7; refine (two_any na nb ao bo la ca lb cb N x y _ (HX.out.1.later HV3.out.1) (HX.out.2.2.1.later HV3.out.1) (by omega) (by omega) 10 (by rw [HM.out]; rfl)).mono ?_; rintro e w4 ⟨rfl, hb4⟩; have HV4 : Hid (Five w4 wr.heap.size na nb ao bo la ca lb cb N ∧ Boxed w4 w2.heap.size na a1 la c1 ∧ Boxed w4 w3.heap.size nb b1 lb d1 ∧ RowAt w4 .u64 a1 la c1 x ∧ RowAt w4 .u64 b1 lb d1 y ∧ Below W.heap.size W w4) := ⟨hT.p.later (bnext HV3.out.1 hb4) (by omega), HV3.out.2.1.later hb4 HV3.out.2.1.lt, HV3.out.2.2.1.later hb4 HV3.out.2.2.1.lt, HV3.out.2.2.2.1.later hb4, HV3.out.2.2.2.2.later hb4, bnext HV3.out.1 hb4⟩; clear q0 q1 q2 q3 q4 hb4)
            | (go_at_call 6; have _t := HV2; refine (copyInt_any nb bo lb cb y _ (HX.out.2.2.1.later HV2.out.1) (by omega)).mono ?_; rintro e w3 ⟨b1, d1, rfl, hrb, hb3⟩; have HV3 : Hid (Below W.heap.size W (w3.alloc (.cells #[.bool nb, .slice b1 lb d1] 26)) ∧ Boxed (w3.alloc (.cells #[.bool nb, .slice b1 lb d1] 26)) w2.heap.size na a1 la c1 ∧ Boxed (w3.alloc (.cells #[.bool nb, .slice b1 lb d1] 26)) w3.heap.size nb b1 lb d1 ∧ RowAt (w3.alloc (.cells #[.bool nb, .slice b1 lb d1] 26)) .u64 a1 la c1 x ∧ RowAt (w3.alloc (.cells #[.bool nb, .slice b1 lb d1] 26)) .u64 b1 lb d1 y) := (by have hA := below_alloc (o := .cells #[.bool nb, .slice b1 lb d1] 26) (Below.refl w3.heap.size w3) (Nat.le_refl _); exact ⟨bnext (bnext HV2.out.1 hb3) hA, (HV2.out.2.1.later hb3 HV2.out.2.1.lt).later hA (Nat.lt_of_lt_of_le HV2.out.2.1.lt hb3.size), Slot.new.2, (HV2.out.2.2.later hb3).later hA, hrb.later hA⟩); clear q0 q1 q2 q3 q4 hb3 hrb; obtain ⟨q0, q1, q2, q3, q4⟩ := hT.p.later HV3.out.1 (by omega))
            | (go_at_call 6; refine (copyInt_any na ao la ca x _ (HX.out.1.later hb1) (by omega)).mono ?_; rintro e w2 ⟨a1, c1, rfl, hra, hb2⟩; have HV2 : Hid (Below W.heap.size W (w2.alloc (.cells #[.bool na, .slice a1 la c1] 26)) ∧ Boxed (w2.alloc (.cells #[.bool na, .slice a1 la c1] 26)) w2.heap.size na a1 la c1 ∧ RowAt (w2.alloc (.cells #[.bool na, .slice a1 la c1] 26)) .u64 a1 la c1 x) := (by have hA := below_alloc (o := .cells #[.bool na, .slice a1 la c1] 26) (Below.refl w2.heap.size w2) (Nat.le_refl _); exact ⟨bnext (bnext hb1 hb2) hA, Slot.new.2, hra.later hA⟩); clear q0 q1 q2 q3 q4 hb2 hra; obtain ⟨q0, q1, q2, q3, q4⟩ := hT.p.later HV2.out.1 (by omega))
            | (go_at_call 5; rw [← hT.eq]; refine (heavy_any na nb ao bo la ca lb cb N _ false HH.out).mono ?_; rintro e w1 ⟨rfl, hb1⟩; obtain ⟨q0, q1, q2, q3, q4⟩ := hT.p.later hb1 (by omega); clear h0 h1 h2 h3 h4))
          obtain ⟨rA, hrA⟩ : ∃ r, w2.heap.size = r := ⟨_, rfl⟩
          obtain ⟨rB, hrB⟩ : ∃ r, w3.heap.size = r := ⟨_, rfl⟩
          rw [hrA, hrB] at HV4
          rw [hrA, hrB]
          have HJ4 : Hid (RowAt w4 .u64 ao la ca x ∧ RowAt w4 .u64 bo lb cb y ∧ Below w.heap.size w w4 ∧ wr.heap.size < w4.heap.size) := ⟨HX.out.1.later HV4.out.2.2.2.2.2, HX.out.2.2.1.later HV4.out.2.2.2.2.2, bnext hbW HV4.out.2.2.2.2.2, by have := HV4.out.2.2.2.2.2.size; omega⟩
          clear HV2 HV3 hb1 hrA hrB
          go_cut [8, 9, 10, 11, 12, 13] (fun s8 s9 s10 s11 s12 s13 wx => ∃ g, s8 = .pointer (some ⟨g, 0, none⟩) ∧ s9 = .pointer (some ⟨g + 1, 0, none⟩) ∧ s10 = .pointer (some ⟨g + 2, 0, none⟩) ∧ s11 = .pointer (some ⟨g + 3, 0, none⟩) ∧ s12 = .pointer (some ⟨g + 4, 0, none⟩) ∧ s13 = .pointer (some ⟨g + 5, 0, none⟩) ∧ Ex w wx wr.heap.size rA rB g na nb ao bo a1 b1 la ca lb cb c1 d1 N x y 0 0 0 0 0 0)
          case first => as_aux_lemma =>
            go_wp2
            go_meet
            exact ⟨_, rfl, rfl, rfl, rfl, rfl, rfl, Ex.new HV4.out.1 HV4.out.2.1 HV4.out.2.2.1 HV4.out.2.2.2.1 HV4.out.2.2.2.2.1 HJ4.out.1 HJ4.out.2.1 HJ4.out.2.2.2 HJ4.out.2.2.1⟩
          case rest => as_aux_lemma =>
            obtain ⟨g, rfl, rfl, rfl, rfl, rfl, rfl, hex⟩ := hcut
            obtain ⟨Z0, hZ0⟩ : ∃ Z0, Z0 = wc := ⟨_, rfl⟩
            subst hZ0
            have HE0 : Hid (Ex w Z0 wr.heap.size rA rB g na nb ao bo a1 b1 la ca lb cb c1 d1 N x y 0 0 0 0 0 0) := hex
            clear hex HV4 HJ4
            go_upto_region 21 with fail
            go_cut [15, 16] (fun s15 s16 wx => ∃ r, s15 = .pointer (some ⟨r, 0, none⟩) ∧ s16 = .int .i64 10 ∧ NilAt Z0 wx r)
            case first => as_aux_lemma =>
              -- region 21
              obtain ⟨ga0, ga1⟩ := (HE0.out.later (Below.refl _ _)).ba
              obtain ⟨gb0, gb1⟩ := (HE0.out.later (Below.refl _ _)).bb
              go_wp2_with (go_at_call 14; refine (add_bad na nb a1 b1 la c1 lb d1 x y _ (HE0.out.later (Below.refl _ _)).ra (HE0.out.later (Below.refl _ _)).rb (by omega) (by omega) HM.out).mono ?_; rintro e y5 ⟨rfl, hb5⟩; have HA5 : Hid (Below Z0.heap.size Z0 y5) := hb5)
              go_meet
              exact ⟨_, rfl, rfl, Slot.new.2, Slot.new.1, HA5.out.size, below_alloc HA5.out (Nat.le_refl _)⟩
            case rest => as_aux_lemma =>
              obtain ⟨r, rfl, rfl, hans⟩ := hcut
              obtain ⟨XAdd, hXAdd⟩ : ∃ Z0, Z0 = wc := ⟨_, rfl⟩
              subst hXAdd
              have HNAdd : Hid (NilAt Z0 XAdd r) := hans
              have hrK : Z0.heap.size ≤ r := hans.2.2.1
              clear hans
              go_upto_region 22 with fail
              go_cut [78] (fun s9 wx => s9 = .bool false ∧ Slot wx r ∧ Below Z0.heap.size Z0 wx)
              case first => as_aux_lemma =>
                -- region 22
                obtain ⟨gx0, gx1⟩ := HNAdd.out.1
                obtain ⟨n8, o8, l8, c8, ⟨g80, g81⟩, hi8, hl8, hf8⟩ := (HE0.out.later HNAdd.out.2.2.2).v0
                clear hi8 hl8 hf8
                go_wp2_with (go_at_call 15; refine (is_bad n8 o8 l8 c8 10 _ (by decide)).mono ?_; rintro e y6 ⟨rfl, hb6, _⟩; have HA6 : Hid (Below XAdd.heap.size XAdd y6) := hb6; clear hb6)
                go_meet
                exact ⟨rfl, HNAdd.out.2.1.at HA6.out HNAdd.out.2.1.lt, HNAdd.out.2.2.2.trans (HA6.out.mono HNAdd.out.2.2.2.size)⟩
              case rest => as_aux_lemma =>
                obtain ⟨rfl, hsl, hbZ⟩ := hcut
                obtain ⟨YSub, hYSub⟩ : ∃ Z0, Z0 = wc := ⟨_, rfl⟩
                subst hYSub
                have HBSub : Hid (Slot YSub r ∧ Below Z0.heap.size Z0 YSub) := ⟨hsl, hbZ⟩
                clear hsl hbZ HNAdd
                go_upto_region 24 with fail
                go_cut [16] (fun s16 wx => s16 = .int .i64 10 ∧ NilAt Z0 wx r)
                case first => as_aux_lemma =>
                  -- region 24
                  obtain ⟨ga0, ga1⟩ := (HE0.out.later HBSub.out.2).ba
                  obtain ⟨gb0, gb1⟩ := (HE0.out.later HBSub.out.2).bb
                  go_wp2_with (go_at_call 16; refine (sub_bad na nb a1 b1 la c1 lb d1 x y _ (HE0.out.later HBSub.out.2).ra (HE0.out.later HBSub.out.2).rb (by omega) (by omega) HM.out).mono ?_; rintro e y5 ⟨rfl, hb5⟩; have HA5 : Hid (Below YSub.heap.size YSub y5) := hb5; obtain ⟨⟨n9, o9, l9, c9, k0, k1⟩, k2⟩ := HBSub.out.1.at hb5 HBSub.out.1.lt)
                  go_meet
                  exact ⟨rfl, ((HBSub.out.1.at HA5.out HBSub.out.1.lt).put _ _ _ _).2, ((HBSub.out.1.at HA5.out HBSub.out.1.lt).put _ _ _ _).1, hrK, below_store (HBSub.out.2.trans (HA5.out.mono HBSub.out.2.size)) hrK _ _⟩
                case rest => as_aux_lemma =>
                  obtain ⟨rfl, hans⟩ := hcut
                  obtain ⟨XSub, hXSub⟩ : ∃ Z0, Z0 = wc := ⟨_, rfl⟩
                  subst hXSub
                  clear HBSub
                  have HNSub : Hid (NilAt Z0 XSub r) := hans
                  clear hans
                  go_upto_region 25 with fail
                  go_cut [90] (fun s9 wx => s9 = .bool false ∧ Slot wx r ∧ Below Z0.heap.size Z0 wx)
                  case first => as_aux_lemma =>
                    -- region 25
                    obtain ⟨gx0, gx1⟩ := HNSub.out.1
                    obtain ⟨n8, o8, l8, c8, ⟨g80, g81⟩, hi8, hl8, hf8⟩ := (HE0.out.later HNSub.out.2.2.2).v1
                    clear hi8 hl8 hf8
                    go_wp2_with (go_at_call 15; refine (is_bad n8 o8 l8 c8 10 _ (by decide)).mono ?_; rintro e y6 ⟨rfl, hb6, _⟩; have HA6 : Hid (Below XSub.heap.size XSub y6) := hb6; clear hb6)
                    go_meet
                    exact ⟨rfl, HNSub.out.2.1.at HA6.out HNSub.out.2.1.lt, HNSub.out.2.2.2.trans (HA6.out.mono HNSub.out.2.2.2.size)⟩
                  case rest => as_aux_lemma =>
                    obtain ⟨rfl, hsl, hbZ⟩ := hcut
                    obtain ⟨YMul, hYMul⟩ : ∃ Z0, Z0 = wc := ⟨_, rfl⟩
                    subst hYMul
                    have HBMul : Hid (Slot YMul r ∧ Below Z0.heap.size Z0 YMul) := ⟨hsl, hbZ⟩
                    clear hsl hbZ HNSub
                    go_upto_region 27 with fail
                    go_cut [16] (fun s16 wx => s16 = .int .i64 10 ∧ NilAt Z0 wx r)
                    case first => as_aux_lemma =>
                      -- region 27
                      obtain ⟨ga0, ga1⟩ := (HE0.out.later HBMul.out.2).ba
                      obtain ⟨gb0, gb1⟩ := (HE0.out.later HBMul.out.2).bb
                      go_wp2_with (go_at_call 17; refine (mul_bad na nb a1 b1 la c1 lb d1 x y _ (HE0.out.later HBMul.out.2).ra (HE0.out.later HBMul.out.2).rb (by omega) (by omega) HM.out).mono ?_; rintro e y5 ⟨rfl, hb5⟩; have HA5 : Hid (Below YMul.heap.size YMul y5) := hb5; obtain ⟨⟨n9, o9, l9, c9, k0, k1⟩, k2⟩ := HBMul.out.1.at hb5 HBMul.out.1.lt)
                      go_meet
                      exact ⟨rfl, ((HBMul.out.1.at HA5.out HBMul.out.1.lt).put _ _ _ _).2, ((HBMul.out.1.at HA5.out HBMul.out.1.lt).put _ _ _ _).1, hrK, below_store (HBMul.out.2.trans (HA5.out.mono HBMul.out.2.size)) hrK _ _⟩
                    case rest => as_aux_lemma =>
                      obtain ⟨rfl, hans⟩ := hcut
                      obtain ⟨XMul, hXMul⟩ : ∃ Z0, Z0 = wc := ⟨_, rfl⟩
                      subst hXMul
                      clear HBMul
                      have HNMul : Hid (NilAt Z0 XMul r) := hans
                      clear hans
                      go_upto_region 28 with fail
                      go_cut [102] (fun s9 wx => s9 = .bool false ∧ Slot wx r ∧ Below Z0.heap.size Z0 wx)
                      case first => as_aux_lemma =>
                        -- region 28
                        obtain ⟨gx0, gx1⟩ := HNMul.out.1
                        obtain ⟨n8, o8, l8, c8, ⟨g80, g81⟩, hi8, hl8, hf8⟩ := (HE0.out.later HNMul.out.2.2.2).v2
                        clear hi8 hl8 hf8
                        go_wp2_with (go_at_call 15; refine (is_bad n8 o8 l8 c8 10 _ (by decide)).mono ?_; rintro e y6 ⟨rfl, hb6, _⟩; have HA6 : Hid (Below XMul.heap.size XMul y6) := hb6; clear hb6)
                        go_meet
                        exact ⟨rfl, HNMul.out.2.1.at HA6.out HNMul.out.2.1.lt, HNMul.out.2.2.2.trans (HA6.out.mono HNMul.out.2.2.2.size)⟩
                      case rest => as_aux_lemma =>
                        obtain ⟨rfl, hsl, hbZ⟩ := hcut
                        obtain ⟨YGcd, hYGcd⟩ : ∃ Z0, Z0 = wc := ⟨_, rfl⟩
                        subst hYGcd
                        have HBGcd : Hid (Slot YGcd r ∧ Below Z0.heap.size Z0 YGcd) := ⟨hsl, hbZ⟩
                        clear hsl hbZ HNMul
                        go_upto_region 30 with fail
                        go_cut [16] (fun s16 wx => s16 = .int .i64 10 ∧ NilAt Z0 wx r)
                        case first => as_aux_lemma =>
                          -- region 30
                          obtain ⟨ga0, ga1⟩ := (HE0.out.later HBGcd.out.2).ba
                          obtain ⟨gb0, gb1⟩ := (HE0.out.later HBGcd.out.2).bb
                          go_wp2_with (go_at_call 18; refine (gcd_bad na nb a1 b1 la c1 lb d1 x y _ (HE0.out.later HBGcd.out.2).ra (HE0.out.later HBGcd.out.2).rb (by omega) (by omega) HM.out).mono ?_; rintro e y5 ⟨rfl, hb5⟩; have HA5 : Hid (Below YGcd.heap.size YGcd y5) := hb5; obtain ⟨⟨n9, o9, l9, c9, k0, k1⟩, k2⟩ := HBGcd.out.1.at hb5 HBGcd.out.1.lt)
                          go_meet
                          exact ⟨rfl, ((HBGcd.out.1.at HA5.out HBGcd.out.1.lt).put _ _ _ _).2, ((HBGcd.out.1.at HA5.out HBGcd.out.1.lt).put _ _ _ _).1, hrK, below_store (HBGcd.out.2.trans (HA5.out.mono HBGcd.out.2.size)) hrK _ _⟩
                        case rest => as_aux_lemma =>
                          obtain ⟨rfl, hans⟩ := hcut
                          obtain ⟨XGcd, hXGcd⟩ : ∃ Z0, Z0 = wc := ⟨_, rfl⟩
                          subst hXGcd
                          clear HBGcd
                          have HNGcd : Hid (NilAt Z0 XGcd r) := hans
                          clear hans
                          go_upto_region 31 with fail
                          go_cut [114] (fun s9 wx => s9 = .bool false ∧ Slot wx r ∧ Below Z0.heap.size Z0 wx)
                          case first => as_aux_lemma =>
                            -- region 31
                            obtain ⟨gx0, gx1⟩ := HNGcd.out.1
                            obtain ⟨n8, o8, l8, c8, ⟨g80, g81⟩, hi8, hl8, hf8⟩ := (HE0.out.later HNGcd.out.2.2.2).v5
                            clear hi8 hl8 hf8
                            go_wp2_with (go_at_call 15; refine (is_bad n8 o8 l8 c8 10 _ (by decide)).mono ?_; rintro e y6 ⟨rfl, hb6, _⟩; have HA6 : Hid (Below XGcd.heap.size XGcd y6) := hb6; clear hb6)
                            go_meet
                            exact ⟨rfl, HNGcd.out.2.1.at HA6.out HNGcd.out.2.1.lt, HNGcd.out.2.2.2.trans (HA6.out.mono HNGcd.out.2.2.2.size)⟩
                          case rest => as_aux_lemma =>
                            obtain ⟨rfl, hsl, hbZ⟩ := hcut
                            obtain ⟨YDiv, hYDiv⟩ : ∃ Z0, Z0 = wc := ⟨_, rfl⟩
                            subst hYDiv
                            have HBDiv : Hid (Slot YDiv r ∧ Below Z0.heap.size Z0 YDiv) := ⟨hsl, hbZ⟩
                            clear hsl hbZ HNGcd
                            go_upto_region 33 with fail
                            go_cut [17, 18] (fun s17 s18 wx => ∃ t, s17 = .pointer (some ⟨t, 0, none⟩) ∧ s18 = .int .i64 10 ∧ NilAt Z0 wx r ∧ NilAt Z0 wx t)
                            case first => as_aux_lemma =>
                              -- region 33
                              obtain ⟨ga0, ga1⟩ := (HE0.out.later HBDiv.out.2).ba
                              obtain ⟨gb0, gb1⟩ := (HE0.out.later HBDiv.out.2).bb
                              go_wp2_with (go_at_call 19; refine (divide_bad na nb a1 b1 la c1 lb d1 x y _ (HE0.out.later HBDiv.out.2).ra (HE0.out.later HBDiv.out.2).rb (by omega) (by omega) HM.out).mono ?_; rintro e y5 ⟨rfl, hb5⟩; have HA5 : Hid (Below YDiv.heap.size YDiv y5) := hb5; obtain ⟨⟨n9, o9, l9, c9, k0, k1⟩, k2⟩ := HBDiv.out.1.at hb5 HBDiv.out.1.lt; have k3 : r < y5.heap.size := Nat.lt_of_lt_of_le HBDiv.out.1.lt hb5.size; have k4 : ¬ r = y5.heap.size := (by omega))
                              go_meet
                              exact ⟨_, rfl, rfl, nil_two HBDiv.out.1 hrK HBDiv.out.2 HA5.out⟩
                            case rest => as_aux_lemma =>
                              obtain ⟨t, rfl, rfl, hn1, hn2⟩ := hcut
                              obtain ⟨XD, hXD⟩ : ∃ Z0, Z0 = wc := ⟨_, rfl⟩
                              subst hXD
                              have HD : Hid (NilAt Z0 XD r ∧ NilAt Z0 XD t) := ⟨hn1, hn2⟩
                              clear hn1 hn2 HBDiv
                              go_upto_region 34 with fail
                              obtain ⟨gx0, gx1⟩ := HD.out.1.1
                              obtain ⟨n8, o8, l8, c8, ⟨g80, g81⟩, hi8, hl8, hf8⟩ := (HE0.out.later HD.out.1.2.2.2).v3
                              clear hi8 hl8 hf8
                              go_wp2_with (first
                                | (go_at_call 20; have _t := HA8; refine (eqint_same nb b1 bo lb d1 lb cb y _ (HE0.out.later HA8.out).rb (HE0.out.later HA8.out).jb (by omega)).mono ?_; rintro e y9 ⟨rfl, hb9⟩; have HA9 : Hid (Below Z0.heap.size Z0 y9) := HA8.out.trans (hb9.mono HA8.out.size); clear hb9)
                                | (go_at_call 20; refine (eqint_same na a1 ao la c1 la ca x _ (HE0.out.later HA7.out).ra (HE0.out.later HA7.out).ja (by omega)).mono ?_; rintro e y8 ⟨rfl, hb8⟩; have HA8 : Hid (Below Z0.heap.size Z0 y8) := HA7.out.trans (hb8.mono HA7.out.size); clear hb8; obtain ⟨ub0, ub1⟩ := (HE0.out.later HA8.out).bb; obtain ⟨f0, f1, f2, f3, f4⟩ := (HE0.out.later HA8.out).p)
                                | (go_at_call 15; have _t := HA6; refine (is_bad m8 p8 j8 e8 10 _ (by decide)).mono ?_; rintro e y7 ⟨rfl, hb7, _⟩; have HA7 : Hid (Below Z0.heap.size Z0 y7) := HA6.out.trans (hb7.mono HA6.out.size); clear hb7; obtain ⟨ua0, ua1⟩ := (HE0.out.later HA7.out).ba; obtain ⟨e0, e1, e2, e3, e4⟩ := (HE0.out.later HA7.out).p)
                                | (go_at_call 15; refine (is_bad n8 o8 l8 c8 10 _ (by decide)).mono ?_; rintro e y6 ⟨rfl, hb6, _⟩; have HA6 : Hid (Below Z0.heap.size Z0 y6) := HD.out.1.2.2.2.trans (hb6.mono HD.out.1.2.2.2.size); obtain ⟨gt0, gt1⟩ := HD.out.2.1.later hb6 HD.out.2.1.lt; clear hb6; obtain ⟨m8, p8, j8, e8, ⟨h80, h81⟩, hi8, hl8, hf8⟩ := (HE0.out.later HA6.out).v4; clear hi8 hl8 hf8))
                              go_roundw
                              case rel => exact ⟨k + 1, by omega, by omega, by go_num, HE0.out.bw.trans (HA9.out.mono HE0.out.bw.size)⟩
                              case measure => simp [intOf]; omega
        · as_aux_lemma =>
          obtain ⟨hm1, hm2⟩ : mayB na x = true ∧ mayB nb y = true := by simpa using hm
          obtain ⟨va, hIa, hxa⟩ := int_of_may HX.out.1 HX.out.2.1 hm1
          obtain ⟨vb, hIb, hyb⟩ := int_of_may HX.out.2.2.1 HX.out.2.2.2 hm2
          have HM : Hid ((mayB na x && mayB nb y) = true) := hm
          have HSG : Hid (na = sgB va ∧ nb = sgB vb) := ⟨hIa.sg, hIb.sg⟩
          clear hm hm1 hm2 hIa hIb
          subst hxa hyb
          go_upto_region 10 with (first
            | (go_at_call 7; refine (two_any na nb ao bo la ca lb cb N (mag va.natAbs) (mag vb.natAbs) _ (HX.out.1.later HV3.out.1) (HX.out.2.2.1.later HV3.out.1) (by omega) (by omega) 0 (by rw [HM.out]; rfl)).mono ?_; rintro e w4 ⟨rfl, hb4⟩; have HV4 : Hid (Five w4 wr.heap.size na nb ao bo la ca lb cb N ∧ Boxed w4 w2.heap.size na a1 la c1 ∧ Boxed w4 w3.heap.size nb b1 lb d1 ∧ RowAt w4 .u64 a1 la c1 (mag va.natAbs) ∧ RowAt w4 .u64 b1 lb d1 (mag vb.natAbs) ∧ Below W.heap.size W w4) := ⟨hT.p.later (bnext HV3.out.1 hb4) (by omega), HV3.out.2.1.later hb4 HV3.out.2.1.lt, HV3.out.2.2.1.later hb4 HV3.out.2.2.1.lt, HV3.out.2.2.2.1.later hb4, HV3.out.2.2.2.2.later hb4, bnext HV3.out.1 hb4⟩; clear q0 q1 q2 q3 q4 hb4)
            | (go_at_call 6; have _t := HV2; refine (copyInt_any nb bo lb cb (mag vb.natAbs) _ (HX.out.2.2.1.later HV2.out.1) (by omega)).mono ?_; rintro e w3 ⟨b1, d1, rfl, hrb, hb3⟩; have HV3 : Hid (Below W.heap.size W (w3.alloc (.cells #[.bool nb, .slice b1 lb d1] 26)) ∧ Boxed (w3.alloc (.cells #[.bool nb, .slice b1 lb d1] 26)) w2.heap.size na a1 la c1 ∧ Boxed (w3.alloc (.cells #[.bool nb, .slice b1 lb d1] 26)) w3.heap.size nb b1 lb d1 ∧ RowAt (w3.alloc (.cells #[.bool nb, .slice b1 lb d1] 26)) .u64 a1 la c1 (mag va.natAbs) ∧ RowAt (w3.alloc (.cells #[.bool nb, .slice b1 lb d1] 26)) .u64 b1 lb d1 (mag vb.natAbs)) := (by have hA := below_alloc (o := .cells #[.bool nb, .slice b1 lb d1] 26) (Below.refl w3.heap.size w3) (Nat.le_refl _); exact ⟨bnext (bnext HV2.out.1 hb3) hA, (HV2.out.2.1.later hb3 HV2.out.2.1.lt).later hA (Nat.lt_of_lt_of_le HV2.out.2.1.lt hb3.size), Slot.new.2, (HV2.out.2.2.later hb3).later hA, hrb.later hA⟩); clear q0 q1 q2 q3 q4 hb3 hrb; obtain ⟨q0, q1, q2, q3, q4⟩ := hT.p.later HV3.out.1 (by omega))
            | (go_at_call 6; refine (copyInt_any na ao la ca (mag va.natAbs) _ (HX.out.1.later hb1) (by omega)).mono ?_; rintro e w2 ⟨a1, c1, rfl, hra, hb2⟩; have HV2 : Hid (Below W.heap.size W (w2.alloc (.cells #[.bool na, .slice a1 la c1] 26)) ∧ Boxed (w2.alloc (.cells #[.bool na, .slice a1 la c1] 26)) w2.heap.size na a1 la c1 ∧ RowAt (w2.alloc (.cells #[.bool na, .slice a1 la c1] 26)) .u64 a1 la c1 (mag va.natAbs)) := (by have hA := below_alloc (o := .cells #[.bool na, .slice a1 la c1] 26) (Below.refl w2.heap.size w2) (Nat.le_refl _); exact ⟨bnext (bnext hb1 hb2) hA, Slot.new.2, hra.later hA⟩); clear q0 q1 q2 q3 q4 hb2 hra; obtain ⟨q0, q1, q2, q3, q4⟩ := hT.p.later HV2.out.1 (by omega))
            | (go_at_call 5; rw [← hT.eq]; refine (heavy_any na nb ao bo la ca lb cb N _ false HH.out).mono ?_; rintro e w1 ⟨rfl, hb1⟩; obtain ⟨q0, q1, q2, q3, q4⟩ := hT.p.later hb1 (by omega); clear h0 h1 h2 h3 h4))
          obtain ⟨rA, hrA⟩ : ∃ r, w2.heap.size = r := ⟨_, rfl⟩
          obtain ⟨rB, hrB⟩ : ∃ r, w3.heap.size = r := ⟨_, rfl⟩
          rw [hrA, hrB] at HV4
          rw [hrA, hrB]
          have HJ4 : Hid (RowAt w4 .u64 ao la ca (mag va.natAbs) ∧ RowAt w4 .u64 bo lb cb (mag vb.natAbs) ∧ Below w.heap.size w w4 ∧ wr.heap.size < w4.heap.size) := ⟨HX.out.1.later HV4.out.2.2.2.2.2, HX.out.2.2.1.later HV4.out.2.2.2.2.2, bnext hbW HV4.out.2.2.2.2.2, by have := HV4.out.2.2.2.2.2.size; omega⟩
          clear HV2 HV3 hb1 hrA hrB
          go_cut [8, 9, 10, 11, 12, 13] (fun s8 s9 s10 s11 s12 s13 wx => ∃ g, s8 = .pointer (some ⟨g, 0, none⟩) ∧ s9 = .pointer (some ⟨g + 1, 0, none⟩) ∧ s10 = .pointer (some ⟨g + 2, 0, none⟩) ∧ s11 = .pointer (some ⟨g + 3, 0, none⟩) ∧ s12 = .pointer (some ⟨g + 4, 0, none⟩) ∧ s13 = .pointer (some ⟨g + 5, 0, none⟩) ∧ Ex w wx wr.heap.size rA rB g na nb ao bo a1 b1 la ca lb cb c1 d1 N (mag va.natAbs) (mag vb.natAbs) 0 0 0 0 0 0)
          case first => as_aux_lemma =>
            go_wp2
            go_meet
            exact ⟨_, rfl, rfl, rfl, rfl, rfl, rfl, Ex.new HV4.out.1 HV4.out.2.1 HV4.out.2.2.1 HV4.out.2.2.2.1 HV4.out.2.2.2.2.1 HJ4.out.1 HJ4.out.2.1 HJ4.out.2.2.2 HJ4.out.2.2.1⟩
          case rest => as_aux_lemma =>
            obtain ⟨g, rfl, rfl, rfl, rfl, rfl, rfl, hex⟩ := hcut
            obtain ⟨Z0, hZ0⟩ : ∃ Z0, Z0 = wc := ⟨_, rfl⟩
            subst hZ0
            have HE0 : Hid (Ex w Z0 wr.heap.size rA rB g na nb ao bo a1 b1 la ca lb cb c1 d1 N (mag va.natAbs) (mag vb.natAbs) 0 0 0 0 0 0) := hex
            clear hex HV4 HJ4
            go_upto_region 13 with fail
            go_cut [48] (fun s9 wx => Ex w wx wr.heap.size rA rB g na nb ao bo a1 b1 la ca lb cb c1 d1 N (mag va.natAbs) (mag vb.natAbs) (va + vb) (0) (0) (0) (0) (0))
            case first => as_aux_lemma =>
              -- region 13
              obtain ⟨ga0, ga1⟩ := HE0.out.ba
              obtain ⟨gb0, gb1⟩ := HE0.out.bb
              go_wp2_with (go_at_call 8; refine (rplus_any na nb a1 b1 la c1 lb d1 va vb _ ⟨HSG.out.1, HE0.out.ra⟩ ⟨HSG.out.2, HE0.out.rb⟩ (by omega) (by omega)).mono ?_; rintro e y5 ⟨n5, o5, l5, c5, rfl, hi5, hb5⟩; have hl5 : l5 ≤ 100 := (by rw [hi5.row.hlen]; have q1 := len_sum va vb; have q2 := HE0.out.ra.hlen; have q3 := HE0.out.rb.hlen; rw [← q2, ← q3] at q1; exact Nat.le_trans q1 (by omega)); have HA5 : Hid (IntAt y5 n5 o5 l5 c5 (va + vb) ∧ Below Z0.heap.size Z0 y5) := ⟨hi5, hb5⟩; obtain ⟨⟨n9, o9, l9, c9, k0, k1⟩, k2⟩ := (HE0.out.v0.later hb5).slot; clear hi5)
              go_meet
              exact Ex.put0 HE0.out HA5.out.2 HA5.out.1 hl5
            case rest => as_aux_lemma =>
              have HE1 : Hid (Ex w wc wr.heap.size rA rB g na nb ao bo a1 b1 la ca lb cb c1 d1 N (mag va.natAbs) (mag vb.natAbs) (va + vb) (0) (0) (0) (0) (0)) := hcut
              clear hcut HE0
              obtain ⟨Z1, hZ⟩ : ∃ Z0, Z0 = wc := ⟨_, rfl⟩
              rw [← hZ] at HE1
              rw [← hZ]
              clear hZ
              go_upto_region 14 with fail
              go_cut [51] (fun s9 wx => Ex w wx wr.heap.size rA rB g na nb ao bo a1 b1 la ca lb cb c1 d1 N (mag va.natAbs) (mag vb.natAbs) (va + vb) (va - vb) (0) (0) (0) (0))
              case first => as_aux_lemma =>
                -- region 14
                obtain ⟨ga0, ga1⟩ := HE1.out.ba
                obtain ⟨gb0, gb1⟩ := HE1.out.bb
                go_wp2_with (go_at_call 9; refine (rless_any na nb a1 b1 la c1 lb d1 va vb _ ⟨HSG.out.1, HE1.out.ra⟩ ⟨HSG.out.2, HE1.out.rb⟩ (by omega) (by omega)).mono ?_; rintro e y5 ⟨n5, o5, l5, c5, rfl, hi5, hb5⟩; have hl5 : l5 ≤ 100 := (by rw [hi5.row.hlen]; have q1 := len_less va vb; have q2 := HE1.out.ra.hlen; have q3 := HE1.out.rb.hlen; rw [← q2, ← q3] at q1; exact Nat.le_trans q1 (by omega)); have HA5 : Hid (IntAt y5 n5 o5 l5 c5 (va - vb) ∧ Below Z1.heap.size Z1 y5) := ⟨hi5, hb5⟩; obtain ⟨⟨n9, o9, l9, c9, k0, k1⟩, k2⟩ := (HE1.out.v1.later hb5).slot; clear hi5)
                go_meet
                exact Ex.put1 HE1.out HA5.out.2 HA5.out.1 hl5
              case rest => as_aux_lemma =>
                have HE2 : Hid (Ex w wc wr.heap.size rA rB g na nb ao bo a1 b1 la ca lb cb c1 d1 N (mag va.natAbs) (mag vb.natAbs) (va + vb) (va - vb) (0) (0) (0) (0)) := hcut
                clear hcut HE1
                obtain ⟨Z2, hZ⟩ : ∃ Z0, Z0 = wc := ⟨_, rfl⟩
                rw [← hZ] at HE2
                rw [← hZ]
                clear hZ
                go_upto_region 15 with fail
                go_cut [54] (fun s9 wx => Ex w wx wr.heap.size rA rB g na nb ao bo a1 b1 la ca lb cb c1 d1 N (mag va.natAbs) (mag vb.natAbs) (va + vb) (va - vb) (va * vb) (0) (0) (0))
                case first => as_aux_lemma =>
                  -- region 15
                  obtain ⟨ga0, ga1⟩ := HE2.out.ba
                  obtain ⟨gb0, gb1⟩ := HE2.out.bb
                  go_wp2_with (go_at_call 10; refine (rtimes_any na nb a1 b1 la c1 lb d1 va vb _ ⟨HSG.out.1, HE2.out.ra⟩ ⟨HSG.out.2, HE2.out.rb⟩ (by omega) (by omega)).mono ?_; rintro e y5 ⟨n5, o5, l5, c5, rfl, hs5, ho5, hb5⟩; have hi5 : IntAt y5 n5 o5 l5 c5 (va * vb) := ⟨hs5, ho5.row⟩; clear hs5 ho5; have hl5 : l5 ≤ 100 := (by rw [hi5.row.hlen]; have q1 := len_prod va vb; have q2 := HE2.out.ra.hlen; have q3 := HE2.out.rb.hlen; rw [← q2, ← q3] at q1; exact Nat.le_trans q1 (by omega)); have HA5 : Hid (IntAt y5 n5 o5 l5 c5 (va * vb) ∧ Below Z2.heap.size Z2 y5) := ⟨hi5, hb5⟩; obtain ⟨⟨n9, o9, l9, c9, k0, k1⟩, k2⟩ := (HE2.out.v2.later hb5).slot; clear hi5)
                  go_meet
                  exact Ex.put2 HE2.out HA5.out.2 HA5.out.1 hl5
                case rest => as_aux_lemma =>
                  have HE3 : Hid (Ex w wc wr.heap.size rA rB g na nb ao bo a1 b1 la ca lb cb c1 d1 N (mag va.natAbs) (mag vb.natAbs) (va + vb) (va - vb) (va * vb) (0) (0) (0)) := hcut
                  clear hcut HE2
                  obtain ⟨Z3, hZ⟩ : ∃ Z0, Z0 = wc := ⟨_, rfl⟩
                  rw [← hZ] at HE3
                  rw [← hZ]
                  clear hZ
                  go_upto_region 16 with fail
                  go_cut [57] (fun s9 wx => Ex w wx wr.heap.size rA rB g na nb ao bo a1 b1 la ca lb cb c1 d1 N (mag va.natAbs) (mag vb.natAbs) (va + vb) (va - vb) (va * vb) (0) (0) (((Nat.gcd va.natAbs vb.natAbs : Nat) : Int)))
                  case first => as_aux_lemma =>
                    -- region 16
                    obtain ⟨ga0, ga1⟩ := HE3.out.ba
                    obtain ⟨gb0, gb1⟩ := HE3.out.bb
                    go_wp2_with (go_at_call 11; refine (rgcd_any na nb a1 b1 la c1 lb d1 va vb _ ⟨HSG.out.1, HE3.out.ra⟩ ⟨HSG.out.2, HE3.out.rb⟩ (by omega) (by omega)).mono ?_; rintro e y5 ⟨n5, o5, l5, c5, rfl, hi5, hb5⟩; have hl5 : l5 ≤ 100 := (by rw [hi5.row.hlen]; have q1 := len_gcd va vb; have q2 := HE3.out.ra.hlen; have q3 := HE3.out.rb.hlen; rw [← q2, ← q3] at q1; exact Nat.le_trans q1 (by omega)); have HA5 : Hid (IntAt y5 n5 o5 l5 c5 (((Nat.gcd va.natAbs vb.natAbs : Nat) : Int)) ∧ Below Z3.heap.size Z3 y5) := ⟨hi5, hb5⟩; obtain ⟨⟨n9, o9, l9, c9, k0, k1⟩, k2⟩ := (HE3.out.v5.later hb5).slot; clear hi5)
                    go_meet
                    exact Ex.put5 HE3.out HA5.out.2 HA5.out.1 hl5
                  case rest => as_aux_lemma =>
                    have HE4 : Hid (Ex w wc wr.heap.size rA rB g na nb ao bo a1 b1 la ca lb cb c1 d1 N (mag va.natAbs) (mag vb.natAbs) (va + vb) (va - vb) (va * vb) (0) (0) (((Nat.gcd va.natAbs vb.natAbs : Nat) : Int))) := hcut
                    clear hcut HE3
                    obtain ⟨Z4, hZ⟩ : ∃ Z0, Z0 = wc := ⟨_, rfl⟩
                    rw [← hZ] at HE4
                    rw [← hZ]
                    clear hZ
                    by_cases hvb : vb = 0
                    · as_aux_lemma =>
                      subst hvb
                      have hlb0 : lb = 0 := (by rw [HE4.out.rb.hlen]; rfl)
                      subst hlb0
                      obtain ⟨gb0, gb1⟩ := HE4.out.bb
                      go_upto_region 21 with (go_at_call 12; refine (rzero_any nb b1 0 d1 _ true rfl).mono ?_; rintro e ZZ ⟨rfl, hb5⟩; have HZZ : Hid (Ex w ZZ wr.heap.size rA rB g na nb ao bo a1 b1 la ca 0 cb c1 d1 N (mag va.natAbs) (mag (0 : Int).natAbs) (va + (0 : Int)) (va - (0 : Int)) (va * (0 : Int)) (0) (0) (((Nat.gcd va.natAbs (0 : Int).natAbs : Nat) : Int))) := HE4.out.later hb5; clear hb5 gb0 gb1)
                      go_cut [15, 16] (fun s15 s16 wx => ∃ r, s15 = .pointer (some ⟨r, 0, none⟩) ∧ s16 = .int .i64 0 ∧ AnsAt ZZ wx r (va + (0 : Int)))
                      case first => as_aux_lemma =>
                        -- region 21
                        obtain ⟨ga0, ga1⟩ := (HZZ.out.later (Below.refl _ _)).ba
                        obtain ⟨gb0, gb1⟩ := (HZZ.out.later (Below.refl _ _)).bb
                        go_wp2_with (go_at_call 14; refine (add_any na nb a1 b1 la c1 0 d1 va (0 : Int) _ ⟨HSG.out.1, (HZZ.out.later (Below.refl _ _)).ra⟩ ⟨HSG.out.2, (HZZ.out.later (Below.refl _ _)).rb⟩ (by omega) (by omega)).mono ?_; rintro e y5 ⟨n5, o5, l5, c5, rfl, hs5, ho5, hb5⟩; have hl5 : l5 ≤ 100 := (by rw [ho5.row.hlen]; have q1 := len_sum va (0 : Int); have q2 := HZZ.out.ra.hlen; have q3 := HZZ.out.rb.hlen; rw [← q2, ← q3] at q1; exact Nat.le_trans q1 (by omega)); have HA5 : Hid (n5 = sgB (va + (0 : Int)) ∧ Own ZZ.heap.size y5 .u64 64 o5 l5 c5 (mag (va + (0 : Int)).natAbs) ∧ Below ZZ.heap.size ZZ y5 ∧ l5 ≤ 100) := ⟨hs5, ho5, hb5, hl5⟩; clear hs5 ho5 hl5)
                        go_meet
                        exact ⟨_, rfl, rfl, _, _, _, _, _, Ans.new HA5.out.1 HA5.out.2.1 HA5.out.2.2.2, Nat.le_refl _, Nat.le_trans HA5.out.2.2.1.size (by simp), HA5.out.2.2.1.size, below_alloc HA5.out.2.2.1 (Nat.le_refl _)⟩
                      case rest => as_aux_lemma =>
                        obtain ⟨r, rfl, rfl, hans⟩ := hcut
                        obtain ⟨XAdd, hXAdd⟩ : ∃ Z0, Z0 = wc := ⟨_, rfl⟩
                        subst hXAdd
                        have HNAdd : Hid (AnsAt ZZ XAdd r (va + (0 : Int))) := hans
                        have hrK : ZZ.heap.size ≤ r := (by obtain ⟨B, n, o, l, c, q1, q2, q3, q4, q5⟩ := hans; exact q4)
                        clear hans
                        go_upto_region 22 with fail
                        go_cut [78] (fun s9 wx => s9 = .bool false ∧ Slot wx r ∧ Below ZZ.heap.size ZZ wx)
                        case first => as_aux_lemma =>
                          -- region 22
                          obtain ⟨B, n7, o7, l7, c7, q1, q2, q3, q4, q5⟩ := HNAdd.out
                          obtain ⟨gx0, gx1⟩ := q1.box
                          obtain ⟨n8, o8, l8, c8, ⟨g80, g81⟩, hi8, hl8, hf8⟩ := (HZZ.out.later q5).v0
                          have HQ : Hid (Ans B XAdd r n7 o7 l7 c7 (va + (0 : Int)) ∧ ZZ.heap.size ≤ B ∧ B ≤ XAdd.heap.size ∧ Below ZZ.heap.size ZZ XAdd ∧ IntAt XAdd n8 o8 l8 c8 (va + (0 : Int))) := ⟨q1, q2, q3, q5, hi8⟩
                          clear q1 q2 q3 q4 q5 hi8 hl8 hf8
                          go_wp2_with (go_at_call 15; refine (is_good B n7 n8 o7 o8 l7 c7 l8 c8 (va + (0 : Int)) _ HQ.out.1.sg HQ.out.1.own HQ.out.2.2.1 HQ.out.2.2.2.2 (Nat.le_trans HQ.out.1.len (by decide))).mono ?_; rintro e y6 ⟨rfl, hb6, hsy⟩; have HA6 : Hid (Below B XAdd y6 ∧ Stay o7 XAdd y6) := ⟨hb6, hsy⟩; clear hb6 hsy)
                          go_meet
                          exact ⟨rfl, HQ.out.1.slot.stay HA6.out.2 HQ.out.1.off, HQ.out.2.2.2.1.trans (HA6.out.1.mono HQ.out.2.1)⟩
                        case rest => as_aux_lemma =>
                          obtain ⟨rfl, hsl, hbZ⟩ := hcut
                          obtain ⟨YSub, hYSub⟩ : ∃ Z0, Z0 = wc := ⟨_, rfl⟩
                          subst hYSub
                          have HBSub : Hid (Slot YSub r ∧ Below ZZ.heap.size ZZ YSub) := ⟨hsl, hbZ⟩
                          clear hsl hbZ HNAdd
                          go_upto_region 24 with fail
                          go_cut [16] (fun s16 wx => s16 = .int .i64 0 ∧ AnsAt ZZ wx r (va - (0 : Int)))
                          case first => as_aux_lemma =>
                            -- region 24
                            obtain ⟨ga0, ga1⟩ := (HZZ.out.later HBSub.out.2).ba
                            obtain ⟨gb0, gb1⟩ := (HZZ.out.later HBSub.out.2).bb
                            go_wp2_with (go_at_call 16; refine (sub_any na nb a1 b1 la c1 0 d1 va (0 : Int) _ ⟨HSG.out.1, (HZZ.out.later HBSub.out.2).ra⟩ ⟨HSG.out.2, (HZZ.out.later HBSub.out.2).rb⟩ (by omega) (by omega)).mono ?_; rintro e y5 ⟨n5, o5, l5, c5, rfl, hs5, ho5, hb5⟩; have hl5 : l5 ≤ 100 := (by rw [ho5.row.hlen]; have q1 := len_less va (0 : Int); have q2 := HZZ.out.ra.hlen; have q3 := HZZ.out.rb.hlen; rw [← q2, ← q3] at q1; exact Nat.le_trans q1 (by omega)); have HA5 : Hid (n5 = sgB (va - (0 : Int)) ∧ Own YSub.heap.size y5 .u64 64 o5 l5 c5 (mag (va - (0 : Int)).natAbs) ∧ Below YSub.heap.size YSub y5 ∧ l5 ≤ 100) := ⟨hs5, ho5, hb5, hl5⟩; obtain ⟨⟨n9, o9, l9, c9, k0, k1⟩, k2⟩ := HBSub.out.1.at hb5 HBSub.out.1.lt; clear hs5 ho5 hl5)
                            go_meet
                            exact ⟨rfl, _, _, _, _, _, Ans.put (HBSub.out.1.at HA5.out.2.2.1 HBSub.out.1.lt) HBSub.out.1.lt HA5.out.1 HA5.out.2.1 HA5.out.2.2.2, HBSub.out.2.size, Nat.le_trans HA5.out.2.2.1.size (by simp [World.setCell]), hrK, below_store (HBSub.out.2.trans (HA5.out.2.2.1.mono HBSub.out.2.size)) hrK _ _⟩
                          case rest => as_aux_lemma =>
                            obtain ⟨rfl, hans⟩ := hcut
                            obtain ⟨XSub, hXSub⟩ : ∃ Z0, Z0 = wc := ⟨_, rfl⟩
                            subst hXSub
                            clear HBSub
                            have HNSub : Hid (AnsAt ZZ XSub r (va - (0 : Int))) := hans
                            clear hans
                            go_upto_region 25 with fail
                            go_cut [90] (fun s9 wx => s9 = .bool false ∧ Slot wx r ∧ Below ZZ.heap.size ZZ wx)
                            case first => as_aux_lemma =>
                              -- region 25
                              obtain ⟨B, n7, o7, l7, c7, q1, q2, q3, q4, q5⟩ := HNSub.out
                              obtain ⟨gx0, gx1⟩ := q1.box
                              obtain ⟨n8, o8, l8, c8, ⟨g80, g81⟩, hi8, hl8, hf8⟩ := (HZZ.out.later q5).v1
                              have HQ : Hid (Ans B XSub r n7 o7 l7 c7 (va - (0 : Int)) ∧ ZZ.heap.size ≤ B ∧ B ≤ XSub.heap.size ∧ Below ZZ.heap.size ZZ XSub ∧ IntAt XSub n8 o8 l8 c8 (va - (0 : Int))) := ⟨q1, q2, q3, q5, hi8⟩
                              clear q1 q2 q3 q4 q5 hi8 hl8 hf8
                              go_wp2_with (go_at_call 15; refine (is_good B n7 n8 o7 o8 l7 c7 l8 c8 (va - (0 : Int)) _ HQ.out.1.sg HQ.out.1.own HQ.out.2.2.1 HQ.out.2.2.2.2 (Nat.le_trans HQ.out.1.len (by decide))).mono ?_; rintro e y6 ⟨rfl, hb6, hsy⟩; have HA6 : Hid (Below B XSub y6 ∧ Stay o7 XSub y6) := ⟨hb6, hsy⟩; clear hb6 hsy)
                              go_meet
                              exact ⟨rfl, HQ.out.1.slot.stay HA6.out.2 HQ.out.1.off, HQ.out.2.2.2.1.trans (HA6.out.1.mono HQ.out.2.1)⟩
                            case rest => as_aux_lemma =>
                              obtain ⟨rfl, hsl, hbZ⟩ := hcut
                              obtain ⟨YMul, hYMul⟩ : ∃ Z0, Z0 = wc := ⟨_, rfl⟩
                              subst hYMul
                              have HBMul : Hid (Slot YMul r ∧ Below ZZ.heap.size ZZ YMul) := ⟨hsl, hbZ⟩
                              clear hsl hbZ HNSub
                              go_upto_region 27 with fail
                              go_cut [16] (fun s16 wx => s16 = .int .i64 0 ∧ AnsAt ZZ wx r (va * (0 : Int)))
                              case first => as_aux_lemma =>
                                -- region 27
                                obtain ⟨ga0, ga1⟩ := (HZZ.out.later HBMul.out.2).ba
                                obtain ⟨gb0, gb1⟩ := (HZZ.out.later HBMul.out.2).bb
                                go_wp2_with (go_at_call 17; refine (bmul_any na nb a1 b1 la c1 0 d1 va (0 : Int) _ ⟨HSG.out.1, (HZZ.out.later HBMul.out.2).ra⟩ ⟨HSG.out.2, (HZZ.out.later HBMul.out.2).rb⟩ (by omega) (by omega)).mono ?_; rintro e y5 ⟨n5, o5, l5, c5, rfl, hs5, ho5, hb5⟩; have hl5 : l5 ≤ 100 := (by rw [ho5.row.hlen]; have q1 := len_prod va (0 : Int); have q2 := HZZ.out.ra.hlen; have q3 := HZZ.out.rb.hlen; rw [← q2, ← q3] at q1; exact Nat.le_trans q1 (by omega)); have HA5 : Hid (n5 = sgB (va * (0 : Int)) ∧ Own YMul.heap.size y5 .u64 64 o5 l5 c5 (mag (va * (0 : Int)).natAbs) ∧ Below YMul.heap.size YMul y5 ∧ l5 ≤ 100) := ⟨hs5, ho5, hb5, hl5⟩; obtain ⟨⟨n9, o9, l9, c9, k0, k1⟩, k2⟩ := HBMul.out.1.at hb5 HBMul.out.1.lt; clear hs5 ho5 hl5)
                                go_meet
                                exact ⟨rfl, _, _, _, _, _, Ans.put (HBMul.out.1.at HA5.out.2.2.1 HBMul.out.1.lt) HBMul.out.1.lt HA5.out.1 HA5.out.2.1 HA5.out.2.2.2, HBMul.out.2.size, Nat.le_trans HA5.out.2.2.1.size (by simp [World.setCell]), hrK, below_store (HBMul.out.2.trans (HA5.out.2.2.1.mono HBMul.out.2.size)) hrK _ _⟩
                              case rest => as_aux_lemma =>
                                obtain ⟨rfl, hans⟩ := hcut
                                obtain ⟨XMul, hXMul⟩ : ∃ Z0, Z0 = wc := ⟨_, rfl⟩
                                subst hXMul
                                clear HBMul
                                have HNMul : Hid (AnsAt ZZ XMul r (va * (0 : Int))) := hans
                                clear hans
                                go_upto_region 28 with fail
                                go_cut [102] (fun s9 wx => s9 = .bool false ∧ Slot wx r ∧ Below ZZ.heap.size ZZ wx)
                                case first => as_aux_lemma =>
                                  -- region 28
                                  obtain ⟨B, n7, o7, l7, c7, q1, q2, q3, q4, q5⟩ := HNMul.out
                                  obtain ⟨gx0, gx1⟩ := q1.box
                                  obtain ⟨n8, o8, l8, c8, ⟨g80, g81⟩, hi8, hl8, hf8⟩ := (HZZ.out.later q5).v2
                                  have HQ : Hid (Ans B XMul r n7 o7 l7 c7 (va * (0 : Int)) ∧ ZZ.heap.size ≤ B ∧ B ≤ XMul.heap.size ∧ Below ZZ.heap.size ZZ XMul ∧ IntAt XMul n8 o8 l8 c8 (va * (0 : Int))) := ⟨q1, q2, q3, q5, hi8⟩
                                  clear q1 q2 q3 q4 q5 hi8 hl8 hf8
                                  go_wp2_with (go_at_call 15; refine (is_good B n7 n8 o7 o8 l7 c7 l8 c8 (va * (0 : Int)) _ HQ.out.1.sg HQ.out.1.own HQ.out.2.2.1 HQ.out.2.2.2.2 (Nat.le_trans HQ.out.1.len (by decide))).mono ?_; rintro e y6 ⟨rfl, hb6, hsy⟩; have HA6 : Hid (Below B XMul y6 ∧ Stay o7 XMul y6) := ⟨hb6, hsy⟩; clear hb6 hsy)
                                  go_meet
                                  exact ⟨rfl, HQ.out.1.slot.stay HA6.out.2 HQ.out.1.off, HQ.out.2.2.2.1.trans (HA6.out.1.mono HQ.out.2.1)⟩
                                case rest => as_aux_lemma =>
                                  obtain ⟨rfl, hsl, hbZ⟩ := hcut
                                  obtain ⟨YGcd, hYGcd⟩ : ∃ Z0, Z0 = wc := ⟨_, rfl⟩
                                  subst hYGcd
                                  have HBGcd : Hid (Slot YGcd r ∧ Below ZZ.heap.size ZZ YGcd) := ⟨hsl, hbZ⟩
                                  clear hsl hbZ HNMul
                                  go_upto_region 30 with fail
                                  go_cut [16] (fun s16 wx => s16 = .int .i64 0 ∧ AnsAt ZZ wx r (((Nat.gcd va.natAbs (0 : Int).natAbs : Nat) : Int)))
                                  case first => as_aux_lemma =>
                                    -- region 30
                                    obtain ⟨ga0, ga1⟩ := (HZZ.out.later HBGcd.out.2).ba
                                    obtain ⟨gb0, gb1⟩ := (HZZ.out.later HBGcd.out.2).bb
                                    go_wp2_with (go_at_call 18; refine (bgcd_any na nb a1 b1 la c1 0 d1 va (0 : Int) _ ⟨HSG.out.1, (HZZ.out.later HBGcd.out.2).ra⟩ ⟨HSG.out.2, (HZZ.out.later HBGcd.out.2).rb⟩ (by omega) (by omega) (tab_later HTB.out (HZZ.out.later HBGcd.out.2).bw)).mono ?_; rintro e y5 ⟨n5, o5, l5, c5, rfl, hs5, ho5, hb5⟩; have hl5 : l5 ≤ 100 := (by rw [ho5.row.hlen]; have q1 := len_gcd va (0 : Int); have q2 := HZZ.out.ra.hlen; have q3 := HZZ.out.rb.hlen; rw [← q2, ← q3] at q1; exact Nat.le_trans q1 (by omega)); have HA5 : Hid (n5 = sgB (((Nat.gcd va.natAbs (0 : Int).natAbs : Nat) : Int)) ∧ Own YGcd.heap.size y5 .u64 64 o5 l5 c5 (mag (((Nat.gcd va.natAbs (0 : Int).natAbs : Nat) : Int)).natAbs) ∧ Below YGcd.heap.size YGcd y5 ∧ l5 ≤ 100) := ⟨hs5, ho5, hb5, hl5⟩; obtain ⟨⟨n9, o9, l9, c9, k0, k1⟩, k2⟩ := HBGcd.out.1.at hb5 HBGcd.out.1.lt; clear hs5 ho5 hl5)
                                    go_meet
                                    exact ⟨rfl, _, _, _, _, _, Ans.put (HBGcd.out.1.at HA5.out.2.2.1 HBGcd.out.1.lt) HBGcd.out.1.lt HA5.out.1 HA5.out.2.1 HA5.out.2.2.2, HBGcd.out.2.size, Nat.le_trans HA5.out.2.2.1.size (by simp [World.setCell]), hrK, below_store (HBGcd.out.2.trans (HA5.out.2.2.1.mono HBGcd.out.2.size)) hrK _ _⟩
                                  case rest => as_aux_lemma =>
                                    obtain ⟨rfl, hans⟩ := hcut
                                    obtain ⟨XGcd, hXGcd⟩ : ∃ Z0, Z0 = wc := ⟨_, rfl⟩
                                    subst hXGcd
                                    clear HBGcd
                                    have HNGcd : Hid (AnsAt ZZ XGcd r (((Nat.gcd va.natAbs (0 : Int).natAbs : Nat) : Int))) := hans
                                    clear hans
                                    go_upto_region 31 with fail
                                    go_cut [114] (fun s9 wx => s9 = .bool false ∧ Slot wx r ∧ Below ZZ.heap.size ZZ wx)
                                    case first => as_aux_lemma =>
                                      -- region 31
                                      obtain ⟨B, n7, o7, l7, c7, q1, q2, q3, q4, q5⟩ := HNGcd.out
                                      obtain ⟨gx0, gx1⟩ := q1.box
                                      obtain ⟨n8, o8, l8, c8, ⟨g80, g81⟩, hi8, hl8, hf8⟩ := (HZZ.out.later q5).v5
                                      have HQ : Hid (Ans B XGcd r n7 o7 l7 c7 (((Nat.gcd va.natAbs (0 : Int).natAbs : Nat) : Int)) ∧ ZZ.heap.size ≤ B ∧ B ≤ XGcd.heap.size ∧ Below ZZ.heap.size ZZ XGcd ∧ IntAt XGcd n8 o8 l8 c8 (((Nat.gcd va.natAbs (0 : Int).natAbs : Nat) : Int))) := ⟨q1, q2, q3, q5, hi8⟩
                                      clear q1 q2 q3 q4 q5 hi8 hl8 hf8
                                      go_wp2_with (go_at_call 15; refine (is_good B n7 n8 o7 o8 l7 c7 l8 c8 (((Nat.gcd va.natAbs (0 : Int).natAbs : Nat) : Int)) _ HQ.out.1.sg HQ.out.1.own HQ.out.2.2.1 HQ.out.2.2.2.2 (Nat.le_trans HQ.out.1.len (by decide))).mono ?_; rintro e y6 ⟨rfl, hb6, hsy⟩; have HA6 : Hid (Below B XGcd y6 ∧ Stay o7 XGcd y6) := ⟨hb6, hsy⟩; clear hb6 hsy)
                                      go_meet
                                      exact ⟨rfl, HQ.out.1.slot.stay HA6.out.2 HQ.out.1.off, HQ.out.2.2.2.1.trans (HA6.out.1.mono HQ.out.2.1)⟩
                                    case rest => as_aux_lemma =>
                                      obtain ⟨rfl, hsl, hbZ⟩ := hcut
                                      obtain ⟨YDiv, hYDiv⟩ : ∃ Z0, Z0 = wc := ⟨_, rfl⟩
                                      subst hYDiv
                                      have HBDiv : Hid (Slot YDiv r ∧ Below ZZ.heap.size ZZ YDiv) := ⟨hsl, hbZ⟩
                                      clear hsl hbZ HNGcd
                                      go_upto_region 33 with fail
                                      go_cut [17, 18] (fun s17 s18 wx => ∃ t, s17 = .pointer (some ⟨t, 0, none⟩) ∧ s18 = .int .i64 11 ∧ NilAt ZZ wx r ∧ NilAt ZZ wx t)
                                      case first => as_aux_lemma =>
                                        -- region 33
                                        obtain ⟨ga0, ga1⟩ := (HZZ.out.later HBDiv.out.2).ba
                                        obtain ⟨gb0, gb1⟩ := (HZZ.out.later HBDiv.out.2).bb
                                        go_wp2_with (go_at_call 19; refine (divide_zero na nb a1 b1 la c1 d1 va _ ⟨HSG.out.1, (HZZ.out.later HBDiv.out.2).ra⟩ ⟨HSG.out.2, (HZZ.out.later HBDiv.out.2).rb⟩ (by omega)).mono ?_; rintro e y5 ⟨rfl, hb5⟩; have HA5 : Hid (Below YDiv.heap.size YDiv y5) := hb5; obtain ⟨⟨n9, o9, l9, c9, k0, k1⟩, k2⟩ := HBDiv.out.1.at hb5 HBDiv.out.1.lt; have k3 : r < y5.heap.size := Nat.lt_of_lt_of_le HBDiv.out.1.lt hb5.size; have k4 : ¬ r = y5.heap.size := (by omega))
                                        go_meet
                                        exact ⟨_, rfl, rfl, nil_two HBDiv.out.1 hrK HBDiv.out.2 HA5.out⟩
                                      case rest => as_aux_lemma =>
                                        obtain ⟨t, rfl, rfl, hn1, hn2⟩ := hcut
                                        obtain ⟨XD, hXD⟩ : ∃ Z0, Z0 = wc := ⟨_, rfl⟩
                                        subst hXD
                                        have HD : Hid (NilAt ZZ XD r ∧ NilAt ZZ XD t) := ⟨hn1, hn2⟩
                                        clear hn1 hn2 HBDiv
                                        go_upto_region 34 with fail
                                        obtain ⟨gx0, gx1⟩ := HD.out.1.1
                                        obtain ⟨n8, o8, l8, c8, ⟨g80, g81⟩, hi8, hl8, hf8⟩ := (HZZ.out.later HD.out.1.2.2.2).v3
                                        clear hi8 hl8 hf8
                                        go_wp2_with (first
                                          | (go_at_call 20; have _t := HA8; refine (eqint_same nb b1 bo 0 d1 0 cb (mag (0 : Int).natAbs) _ (HZZ.out.later HA8.out).rb (HZZ.out.later HA8.out).jb (by omega)).mono ?_; rintro e y9 ⟨rfl, hb9⟩; have HA9 : Hid (Below ZZ.heap.size ZZ y9) := HA8.out.trans (hb9.mono HA8.out.size); clear hb9)
                                          | (go_at_call 20; refine (eqint_same na a1 ao la c1 la ca (mag va.natAbs) _ (HZZ.out.later HA7.out).ra (HZZ.out.later HA7.out).ja (by omega)).mono ?_; rintro e y8 ⟨rfl, hb8⟩; have HA8 : Hid (Below ZZ.heap.size ZZ y8) := HA7.out.trans (hb8.mono HA7.out.size); clear hb8; obtain ⟨ub0, ub1⟩ := (HZZ.out.later HA8.out).bb; obtain ⟨f0, f1, f2, f3, f4⟩ := (HZZ.out.later HA8.out).p)
                                          | (go_at_call 15; have _t := HA6; refine (is_bad m8 p8 j8 e8 11 _ (by decide)).mono ?_; rintro e y7 ⟨rfl, hb7, _⟩; have HA7 : Hid (Below ZZ.heap.size ZZ y7) := HA6.out.trans (hb7.mono HA6.out.size); clear hb7; obtain ⟨ua0, ua1⟩ := (HZZ.out.later HA7.out).ba; obtain ⟨e0, e1, e2, e3, e4⟩ := (HZZ.out.later HA7.out).p)
                                          | (go_at_call 15; refine (is_bad n8 o8 l8 c8 11 _ (by decide)).mono ?_; rintro e y6 ⟨rfl, hb6, _⟩; have HA6 : Hid (Below ZZ.heap.size ZZ y6) := HD.out.1.2.2.2.trans (hb6.mono HD.out.1.2.2.2.size); obtain ⟨gt0, gt1⟩ := HD.out.2.1.later hb6 HD.out.2.1.lt; clear hb6; obtain ⟨m8, p8, j8, e8, ⟨h80, h81⟩, hi8, hl8, hf8⟩ := (HZZ.out.later HA6.out).v4; clear hi8 hl8 hf8))
                                        go_roundw
                                        case rel => exact ⟨k + 1, by omega, by omega, by go_num, HZZ.out.bw.trans (HA9.out.mono HZZ.out.bw.size)⟩
                                        case measure => simp [intOf]; omega
                    · as_aux_lemma =>
                      have HVB : Hid (vb ≠ 0) := hvb
                      have hlb0 : ((lb : Int) == 0) = false := (by have q1 : 0 < lb := (by rw [HE4.out.rb.hlen]; exact mag_len_pos.2 (Int.natAbs_pos.2 hvb)); simp; omega)
                      clear hvb
                      obtain ⟨gb0, gb1⟩ := HE4.out.bb
                      go_upto_region 20 with (go_at_call 12; refine (rzero_any nb b1 lb d1 _ false hlb0).mono ?_; rintro e ZZ ⟨rfl, hb5⟩; have HZZ : Hid (Ex w ZZ wr.heap.size rA rB g na nb ao bo a1 b1 la ca lb cb c1 d1 N (mag va.natAbs) (mag vb.natAbs) (va + vb) (va - vb) (va * vb) (0) (0) (((Nat.gcd va.natAbs vb.natAbs : Nat) : Int))) := HE4.out.later hb5; clear hb5 gb0 gb1)
                      clear HE4
                      go_cut [64] (fun s9 wx => ∃ vq vr : Int, FloorOf va vb vq vr ∧ Ex w wx wr.heap.size rA rB g na nb ao bo a1 b1 la ca lb cb c1 d1 N (mag va.natAbs) (mag vb.natAbs) (va + vb) (va - vb) (va * vb) (vq) (vr) (((Nat.gcd va.natAbs vb.natAbs : Nat) : Int)))
                      case first => as_aux_lemma =>
                        obtain ⟨ga0, ga1⟩ := HZZ.out.ba
                        obtain ⟨gb0, gb1⟩ := HZZ.out.bb
                        go_wp2_with (go_at_call 13; refine (rdivide_any na nb a1 b1 la c1 lb d1 va vb _ ⟨HSG.out.1, HZZ.out.ra⟩ ⟨HSG.out.2, HZZ.out.rb⟩ (by omega) (by omega) HVB.out).mono ?_; rintro e y5 ⟨vq, vr, hfl, n5, o5, l5, c5, n6, o6, l6, c6, rfl, hi5, hi6, hb5⟩; have HA5 : Hid (FloorOf va vb vq vr ∧ IntAt y5 n5 o5 l5 c5 vq ∧ IntAt y5 n6 o6 l6 c6 vr ∧ Below ZZ.heap.size ZZ y5 ∧ l5 ≤ 100 ∧ l6 ≤ 100) := ⟨hfl, hi5, hi6, hb5, (by rw [hi5.row.hlen]; have q1 := (floor_small hfl HVB.out).1; have q2 := HZZ.out.ra.hlen; have q3 := HZZ.out.rb.hlen; rw [← q2, ← q3] at q1; omega), (by rw [hi6.row.hlen]; have q1 := (floor_small hfl HVB.out).2; have q3 := HZZ.out.rb.hlen; rw [← q3] at q1; omega)⟩; obtain ⟨⟨n9, o9, l9, c9, k0, k1⟩, k2⟩ := (HZZ.out.v3.later hb5).slot; obtain ⟨⟨m9, p9, j9, e9, i0, i1⟩, i2⟩ := (HZZ.out.v4.later hb5).slot; clear hi5 hi6 hfl)
                        go_meet
                        obtain ⟨⟨n7, o7, l7, c7, hx7⟩, _⟩ := (HZZ.out.v3.later HA5.out.2.2.2.1).slot
                        exact ⟨_, _, HA5.out.1, Ex.put4 (Ex.put3 HZZ.out HA5.out.2.2.2.1 HA5.out.2.1 HA5.out.2.2.2.2.1) (Below.refl _ _) ⟨HA5.out.2.2.1.sg, HA5.out.2.2.1.row.boxed hx7 _ _⟩ HA5.out.2.2.2.2.2⟩
                      case rest => as_aux_lemma =>
                        obtain ⟨vq, vr, hfl, hex⟩ := hcut
                        have HFL : Hid (FloorOf va vb vq vr) := hfl
                        have HQQ : Hid (Ex w wc wr.heap.size rA rB g na nb ao bo a1 b1 la ca lb cb c1 d1 N (mag va.natAbs) (mag vb.natAbs) (va + vb) (va - vb) (va * vb) (vq) (vr) (((Nat.gcd va.natAbs vb.natAbs : Nat) : Int))) := hex
                        clear hfl hex HZZ
                        obtain ⟨QQ, hZ⟩ : ∃ Z0, Z0 = wc := ⟨_, rfl⟩
                        rw [← hZ] at HQQ
                        rw [← hZ]
                        clear hZ
                        go_upto_region 21 with fail
                        go_cut [15, 16] (fun s15 s16 wx => ∃ r, s15 = .pointer (some ⟨r, 0, none⟩) ∧ s16 = .int .i64 0 ∧ AnsAt QQ wx r (va + vb))
                        case first => as_aux_lemma =>
                          -- region 21
                          obtain ⟨ga0, ga1⟩ := (HQQ.out.later (Below.refl _ _)).ba
                          obtain ⟨gb0, gb1⟩ := (HQQ.out.later (Below.refl _ _)).bb
                          go_wp2_with (go_at_call 14; refine (add_any na nb a1 b1 la c1 lb d1 va vb _ ⟨HSG.out.1, (HQQ.out.later (Below.refl _ _)).ra⟩ ⟨HSG.out.2, (HQQ.out.later (Below.refl _ _)).rb⟩ (by omega) (by omega)).mono ?_; rintro e y5 ⟨n5, o5, l5, c5, rfl, hs5, ho5, hb5⟩; have hl5 : l5 ≤ 100 := (by rw [ho5.row.hlen]; have q1 := len_sum va vb; have q2 := HQQ.out.ra.hlen; have q3 := HQQ.out.rb.hlen; rw [← q2, ← q3] at q1; exact Nat.le_trans q1 (by omega)); have HA5 : Hid (n5 = sgB (va + vb) ∧ Own QQ.heap.size y5 .u64 64 o5 l5 c5 (mag (va + vb).natAbs) ∧ Below QQ.heap.size QQ y5 ∧ l5 ≤ 100) := ⟨hs5, ho5, hb5, hl5⟩; clear hs5 ho5 hl5)
                          go_meet
                          exact ⟨_, rfl, rfl, _, _, _, _, _, Ans.new HA5.out.1 HA5.out.2.1 HA5.out.2.2.2, Nat.le_refl _, Nat.le_trans HA5.out.2.2.1.size (by simp), HA5.out.2.2.1.size, below_alloc HA5.out.2.2.1 (Nat.le_refl _)⟩
                        case rest => as_aux_lemma =>
                          obtain ⟨r, rfl, rfl, hans⟩ := hcut
                          obtain ⟨XAdd, hXAdd⟩ : ∃ Z0, Z0 = wc := ⟨_, rfl⟩
                          subst hXAdd
                          have HNAdd : Hid (AnsAt QQ XAdd r (va + vb)) := hans
                          have hrK : QQ.heap.size ≤ r := (by obtain ⟨B, n, o, l, c, q1, q2, q3, q4, q5⟩ := hans; exact q4)
                          clear hans
                          go_upto_region 22 with fail
                          go_cut [78] (fun s9 wx => s9 = .bool false ∧ Slot wx r ∧ Below QQ.heap.size QQ wx)
                          case first => as_aux_lemma =>
                            -- region 22
                            obtain ⟨B, n7, o7, l7, c7, q1, q2, q3, q4, q5⟩ := HNAdd.out
                            obtain ⟨gx0, gx1⟩ := q1.box
                            obtain ⟨n8, o8, l8, c8, ⟨g80, g81⟩, hi8, hl8, hf8⟩ := (HQQ.out.later q5).v0
                            have HQ : Hid (Ans B XAdd r n7 o7 l7 c7 (va + vb) ∧ QQ.heap.size ≤ B ∧ B ≤ XAdd.heap.size ∧ Below QQ.heap.size QQ XAdd ∧ IntAt XAdd n8 o8 l8 c8 (va + vb)) := ⟨q1, q2, q3, q5, hi8⟩
                            clear q1 q2 q3 q4 q5 hi8 hl8 hf8
                            go_wp2_with (go_at_call 15; refine (is_good B n7 n8 o7 o8 l7 c7 l8 c8 (va + vb) _ HQ.out.1.sg HQ.out.1.own HQ.out.2.2.1 HQ.out.2.2.2.2 (Nat.le_trans HQ.out.1.len (by decide))).mono ?_; rintro e y6 ⟨rfl, hb6, hsy⟩; have HA6 : Hid (Below B XAdd y6 ∧ Stay o7 XAdd y6) := ⟨hb6, hsy⟩; clear hb6 hsy)
                            go_meet
                            exact ⟨rfl, HQ.out.1.slot.stay HA6.out.2 HQ.out.1.off, HQ.out.2.2.2.1.trans (HA6.out.1.mono HQ.out.2.1)⟩
                          case rest => as_aux_lemma =>
                            obtain ⟨rfl, hsl, hbZ⟩ := hcut
                            obtain ⟨YSub, hYSub⟩ : ∃ Z0, Z0 = wc := ⟨_, rfl⟩
                            subst hYSub
                            have HBSub : Hid (Slot YSub r ∧ Below QQ.heap.size QQ YSub) := ⟨hsl, hbZ⟩
                            clear hsl hbZ HNAdd
                            go_upto_region 24 with fail
                            go_cut [16] (fun s16 wx => s16 = .int .i64 0 ∧ AnsAt QQ wx r (va - vb))
                            case first => as_aux_lemma =>
                              -- region 24
                              obtain ⟨ga0, ga1⟩ := (HQQ.out.later HBSub.out.2).ba
                              obtain ⟨gb0, gb1⟩ := (HQQ.out.later HBSub.out.2).bb
                              go_wp2_with (go_at_call 16; refine (sub_any na nb a1 b1 la c1 lb d1 va vb _ ⟨HSG.out.1, (HQQ.out.later HBSub.out.2).ra⟩ ⟨HSG.out.2, (HQQ.out.later HBSub.out.2).rb⟩ (by omega) (by omega)).mono ?_; rintro e y5 ⟨n5, o5, l5, c5, rfl, hs5, ho5, hb5⟩; have hl5 : l5 ≤ 100 := (by rw [ho5.row.hlen]; have q1 := len_less va vb; have q2 := HQQ.out.ra.hlen; have q3 := HQQ.out.rb.hlen; rw [← q2, ← q3] at q1; exact Nat.le_trans q1 (by omega)); have HA5 : Hid (n5 = sgB (va - vb) ∧ Own YSub.heap.size y5 .u64 64 o5 l5 c5 (mag (va - vb).natAbs) ∧ Below YSub.heap.size YSub y5 ∧ l5 ≤ 100) := ⟨hs5, ho5, hb5, hl5⟩; obtain ⟨⟨n9, o9, l9, c9, k0, k1⟩, k2⟩ := HBSub.out.1.at hb5 HBSub.out.1.lt; clear hs5 ho5 hl5)
                              go_meet
                              exact ⟨rfl, _, _, _, _, _, Ans.put (HBSub.out.1.at HA5.out.2.2.1 HBSub.out.1.lt) HBSub.out.1.lt HA5.out.1 HA5.out.2.1 HA5.out.2.2.2, HBSub.out.2.size, Nat.le_trans HA5.out.2.2.1.size (by simp [World.setCell]), hrK, below_store (HBSub.out.2.trans (HA5.out.2.2.1.mono HBSub.out.2.size)) hrK _ _⟩
                            case rest => as_aux_lemma =>
                              obtain ⟨rfl, hans⟩ := hcut
                              obtain ⟨XSub, hXSub⟩ : ∃ Z0, Z0 = wc := ⟨_, rfl⟩
                              subst hXSub
                              clear HBSub
                              have HNSub : Hid (AnsAt QQ XSub r (va - vb)) := hans
                              clear hans
                              go_upto_region 25 with fail
                              go_cut [90] (fun s9 wx => s9 = .bool false ∧ Slot wx r ∧ Below QQ.heap.size QQ wx)
                              case first => as_aux_lemma =>
                                -- region 25
                                obtain ⟨B, n7, o7, l7, c7, q1, q2, q3, q4, q5⟩ := HNSub.out
                                obtain ⟨gx0, gx1⟩ := q1.box
                                obtain ⟨n8, o8, l8, c8, ⟨g80, g81⟩, hi8, hl8, hf8⟩ := (HQQ.out.later q5).v1
                                have HQ : Hid (Ans B XSub r n7 o7 l7 c7 (va - vb) ∧ QQ.heap.size ≤ B ∧ B ≤ XSub.heap.size ∧ Below QQ.heap.size QQ XSub ∧ IntAt XSub n8 o8 l8 c8 (va - vb)) := ⟨q1, q2, q3, q5, hi8⟩
                                clear q1 q2 q3 q4 q5 hi8 hl8 hf8
                                go_wp2_with (go_at_call 15; refine (is_good B n7 n8 o7 o8 l7 c7 l8 c8 (va - vb) _ HQ.out.1.sg HQ.out.1.own HQ.out.2.2.1 HQ.out.2.2.2.2 (Nat.le_trans HQ.out.1.len (by decide))).mono ?_; rintro e y6 ⟨rfl, hb6, hsy⟩; have HA6 : Hid (Below B XSub y6 ∧ Stay o7 XSub y6) := ⟨hb6, hsy⟩; clear hb6 hsy)
                                go_meet
                                exact ⟨rfl, HQ.out.1.slot.stay HA6.out.2 HQ.out.1.off, HQ.out.2.2.2.1.trans (HA6.out.1.mono HQ.out.2.1)⟩
                              case rest => as_aux_lemma =>
                                obtain ⟨rfl, hsl, hbZ⟩ := hcut
                                obtain ⟨YMul, hYMul⟩ : ∃ Z0, Z0 = wc := ⟨_, rfl⟩
                                subst hYMul
                                have HBMul : Hid (Slot YMul r ∧ Below QQ.heap.size QQ YMul) := ⟨hsl, hbZ⟩
                                clear hsl hbZ HNSub
                                go_upto_region 27 with fail
                                go_cut [16] (fun s16 wx => s16 = .int .i64 0 ∧ AnsAt QQ wx r (va * vb))
                                case first => as_aux_lemma =>
                                  -- region 27
                                  obtain ⟨ga0, ga1⟩ := (HQQ.out.later HBMul.out.2).ba
                                  obtain ⟨gb0, gb1⟩ := (HQQ.out.later HBMul.out.2).bb
                                  go_wp2_with (go_at_call 17; refine (bmul_any na nb a1 b1 la c1 lb d1 va vb _ ⟨HSG.out.1, (HQQ.out.later HBMul.out.2).ra⟩ ⟨HSG.out.2, (HQQ.out.later HBMul.out.2).rb⟩ (by omega) (by omega)).mono ?_; rintro e y5 ⟨n5, o5, l5, c5, rfl, hs5, ho5, hb5⟩; have hl5 : l5 ≤ 100 := (by rw [ho5.row.hlen]; have q1 := len_prod va vb; have q2 := HQQ.out.ra.hlen; have q3 := HQQ.out.rb.hlen; rw [← q2, ← q3] at q1; exact Nat.le_trans q1 (by omega)); have HA5 : Hid (n5 = sgB (va * vb) ∧ Own YMul.heap.size y5 .u64 64 o5 l5 c5 (mag (va * vb).natAbs) ∧ Below YMul.heap.size YMul y5 ∧ l5 ≤ 100) := ⟨hs5, ho5, hb5, hl5⟩; obtain ⟨⟨n9, o9, l9, c9, k0, k1⟩, k2⟩ := HBMul.out.1.at hb5 HBMul.out.1.lt; clear hs5 ho5 hl5)
                                  go_meet
                                  exact ⟨rfl, _, _, _, _, _, Ans.put (HBMul.out.1.at HA5.out.2.2.1 HBMul.out.1.lt) HBMul.out.1.lt HA5.out.1 HA5.out.2.1 HA5.out.2.2.2, HBMul.out.2.size, Nat.le_trans HA5.out.2.2.1.size (by simp [World.setCell]), hrK, below_store (HBMul.out.2.trans (HA5.out.2.2.1.mono HBMul.out.2.size)) hrK _ _⟩
                                case rest => as_aux_lemma =>
                                  obtain ⟨rfl, hans⟩ := hcut
                                  obtain ⟨XMul, hXMul⟩ : ∃ Z0, Z0 = wc := ⟨_, rfl⟩
                                  subst hXMul
                                  clear HBMul
                                  have HNMul : Hid (AnsAt QQ XMul r (va * vb)) := hans
                                  clear hans
                                  go_upto_region 28 with fail
                                  go_cut [102] (fun s9 wx => s9 = .bool false ∧ Slot wx r ∧ Below QQ.heap.size QQ wx)
                                  case first => as_aux_lemma =>
                                    -- region 28
                                    obtain ⟨B, n7, o7, l7, c7, q1, q2, q3, q4, q5⟩ := HNMul.out
                                    obtain ⟨gx0, gx1⟩ := q1.box
                                    obtain ⟨n8, o8, l8, c8, ⟨g80, g81⟩, hi8, hl8, hf8⟩ := (HQQ.out.later q5).v2
                                    have HQ : Hid (Ans B XMul r n7 o7 l7 c7 (va * vb) ∧ QQ.heap.size ≤ B ∧ B ≤ XMul.heap.size ∧ Below QQ.heap.size QQ XMul ∧ IntAt XMul n8 o8 l8 c8 (va * vb)) := ⟨q1, q2, q3, q5, hi8⟩
                                    clear q1 q2 q3 q4 q5 hi8 hl8 hf8
                                    go_wp2_with (go_at_call 15; refine (is_good B n7 n8 o7 o8 l7 c7 l8 c8 (va * vb) _ HQ.out.1.sg HQ.out.1.own HQ.out.2.2.1 HQ.out.2.2.2.2 (Nat.le_trans HQ.out.1.len (by decide))).mono ?_; rintro e y6 ⟨rfl, hb6, hsy⟩; have HA6 : Hid (Below B XMul y6 ∧ Stay o7 XMul y6) := ⟨hb6, hsy⟩; clear hb6 hsy)
                                    go_meet
                                    exact ⟨rfl, HQ.out.1.slot.stay HA6.out.2 HQ.out.1.off, HQ.out.2.2.2.1.trans (HA6.out.1.mono HQ.out.2.1)⟩
                                  case rest => as_aux_lemma =>
                                    obtain ⟨rfl, hsl, hbZ⟩ := hcut
                                    obtain ⟨YGcd, hYGcd⟩ : ∃ Z0, Z0 = wc := ⟨_, rfl⟩
                                    subst hYGcd
                                    have HBGcd : Hid (Slot YGcd r ∧ Below QQ.heap.size QQ YGcd) := ⟨hsl, hbZ⟩
                                    clear hsl hbZ HNMul
                                    go_upto_region 30 with fail
                                    go_cut [16] (fun s16 wx => s16 = .int .i64 0 ∧ AnsAt QQ wx r (((Nat.gcd va.natAbs vb.natAbs : Nat) : Int)))
                                    case first => as_aux_lemma =>
                                      -- region 30
                                      obtain ⟨ga0, ga1⟩ := (HQQ.out.later HBGcd.out.2).ba
                                      obtain ⟨gb0, gb1⟩ := (HQQ.out.later HBGcd.out.2).bb
                                      go_wp2_with (go_at_call 18; refine (bgcd_any na nb a1 b1 la c1 lb d1 va vb _ ⟨HSG.out.1, (HQQ.out.later HBGcd.out.2).ra⟩ ⟨HSG.out.2, (HQQ.out.later HBGcd.out.2).rb⟩ (by omega) (by omega) (tab_later HTB.out (HQQ.out.later HBGcd.out.2).bw)).mono ?_; rintro e y5 ⟨n5, o5, l5, c5, rfl, hs5, ho5, hb5⟩; have hl5 : l5 ≤ 100 := (by rw [ho5.row.hlen]; have q1 := len_gcd va vb; have q2 := HQQ.out.ra.hlen; have q3 := HQQ.out.rb.hlen; rw [← q2, ← q3] at q1; exact Nat.le_trans q1 (by omega)); have HA5 : Hid (n5 = sgB (((Nat.gcd va.natAbs vb.natAbs : Nat) : Int)) ∧ Own YGcd.heap.size y5 .u64 64 o5 l5 c5 (mag (((Nat.gcd va.natAbs vb.natAbs : Nat) : Int)).natAbs) ∧ Below YGcd.heap.size YGcd y5 ∧ l5 ≤ 100) := ⟨hs5, ho5, hb5, hl5⟩; obtain ⟨⟨n9, o9, l9, c9, k0, k1⟩, k2⟩ := HBGcd.out.1.at hb5 HBGcd.out.1.lt; clear hs5 ho5 hl5)
                                      go_meet
                                      exact ⟨rfl, _, _, _, _, _, Ans.put (HBGcd.out.1.at HA5.out.2.2.1 HBGcd.out.1.lt) HBGcd.out.1.lt HA5.out.1 HA5.out.2.1 HA5.out.2.2.2, HBGcd.out.2.size, Nat.le_trans HA5.out.2.2.1.size (by simp [World.setCell]), hrK, below_store (HBGcd.out.2.trans (HA5.out.2.2.1.mono HBGcd.out.2.size)) hrK _ _⟩
                                    case rest => as_aux_lemma =>
                                      obtain ⟨rfl, hans⟩ := hcut
                                      obtain ⟨XGcd, hXGcd⟩ : ∃ Z0, Z0 = wc := ⟨_, rfl⟩
                                      subst hXGcd
                                      clear HBGcd
                                      have HNGcd : Hid (AnsAt QQ XGcd r (((Nat.gcd va.natAbs vb.natAbs : Nat) : Int))) := hans
                                      clear hans
                                      go_upto_region 31 with fail
                                      go_cut [114] (fun s9 wx => s9 = .bool false ∧ Slot wx r ∧ Below QQ.heap.size QQ wx)
                                      case first => as_aux_lemma =>
                                        -- region 31
                                        obtain ⟨B, n7, o7, l7, c7, q1, q2, q3, q4, q5⟩ := HNGcd.out
                                        obtain ⟨gx0, gx1⟩ := q1.box
                                        obtain ⟨n8, o8, l8, c8, ⟨g80, g81⟩, hi8, hl8, hf8⟩ := (HQQ.out.later q5).v5
                                        have HQ : Hid (Ans B XGcd r n7 o7 l7 c7 (((Nat.gcd va.natAbs vb.natAbs : Nat) : Int)) ∧ QQ.heap.size ≤ B ∧ B ≤ XGcd.heap.size ∧ Below QQ.heap.size QQ XGcd ∧ IntAt XGcd n8 o8 l8 c8 (((Nat.gcd va.natAbs vb.natAbs : Nat) : Int))) := ⟨q1, q2, q3, q5, hi8⟩
                                        clear q1 q2 q3 q4 q5 hi8 hl8 hf8
                                        go_wp2_with (go_at_call 15; refine (is_good B n7 n8 o7 o8 l7 c7 l8 c8 (((Nat.gcd va.natAbs vb.natAbs : Nat) : Int)) _ HQ.out.1.sg HQ.out.1.own HQ.out.2.2.1 HQ.out.2.2.2.2 (Nat.le_trans HQ.out.1.len (by decide))).mono ?_; rintro e y6 ⟨rfl, hb6, hsy⟩; have HA6 : Hid (Below B XGcd y6 ∧ Stay o7 XGcd y6) := ⟨hb6, hsy⟩; clear hb6 hsy)
                                        go_meet
                                        exact ⟨rfl, HQ.out.1.slot.stay HA6.out.2 HQ.out.1.off, HQ.out.2.2.2.1.trans (HA6.out.1.mono HQ.out.2.1)⟩
                                      case rest => as_aux_lemma =>
                                        obtain ⟨rfl, hsl, hbZ⟩ := hcut
                                        obtain ⟨YDiv, hYDiv⟩ : ∃ Z0, Z0 = wc := ⟨_, rfl⟩
                                        subst hYDiv
                                        have HBDiv : Hid (Slot YDiv r ∧ Below QQ.heap.size QQ YDiv) := ⟨hsl, hbZ⟩
                                        clear hsl hbZ HNGcd
                                        go_upto_region 33 with fail
                                        go_cut [17, 18] (fun s17 s18 wx => ∃ t, s17 = .pointer (some ⟨t, 0, none⟩) ∧ s18 = .int .i64 0 ∧ TwoAt QQ wx r t (vq) (vr))
                                        case first => as_aux_lemma =>
                                          -- region 33
                                          obtain ⟨ga0, ga1⟩ := (HQQ.out.later HBDiv.out.2).ba
                                          obtain ⟨gb0, gb1⟩ := (HQQ.out.later HBDiv.out.2).bb
                                          go_wp2_with (go_at_call 19; refine (bdivide_parted na nb a1 b1 la c1 lb d1 va vb _ ⟨HSG.out.1, (HQQ.out.later HBDiv.out.2).ra⟩ ⟨HSG.out.2, (HQQ.out.later HBDiv.out.2).rb⟩ (by omega) (by omega) HVB.out).mono ?_; rintro e y5 ⟨q5, r5, hfl, n5, o5, l5, c5, n6, o6, l6, c6, rfl, hs5, ho5, hs6, ho6, hb5, hpt⟩; obtain ⟨rfl, rfl⟩ := floor_one HFL.out hfl; have HA5 : Hid (n5 = sgB (vq) ∧ Own YDiv.heap.size y5 .u64 64 o5 l5 c5 (mag (vq).natAbs) ∧ n6 = sgB (vr) ∧ Own YDiv.heap.size y5 .u64 64 o6 l6 c6 (mag (vr).natAbs) ∧ Below YDiv.heap.size YDiv y5 ∧ Parted o5 o6 ∧ l5 ≤ 100 ∧ l6 ≤ 100) := ⟨hs5, ho5, hs6, ho6, hb5, hpt, (by rw [ho5.row.hlen]; have q1 := (floor_small hfl HVB.out).1; have q2 := HQQ.out.ra.hlen; have q3 := HQQ.out.rb.hlen; rw [← q2, ← q3] at q1; omega), (by rw [ho6.row.hlen]; have q1 := (floor_small hfl HVB.out).2; have q3 := HQQ.out.rb.hlen; rw [← q3] at q1; omega)⟩; obtain ⟨⟨n9, o9, l9, c9, k0, k1⟩, k2⟩ := HBDiv.out.1.at hb5 HBDiv.out.1.lt; have k3 : r < y5.heap.size := Nat.lt_of_lt_of_le HBDiv.out.1.lt hb5.size; have k4 : ¬ r = y5.heap.size := (by omega); clear hs5 ho5 hs6 ho6 hfl hpt)
                                          go_meet
                                          exact ⟨_, rfl, rfl, two_two HBDiv.out.1 hrK HBDiv.out.2 HA5.out.2.2.2.2.1 HA5.out.1 HA5.out.2.1 HA5.out.2.2.1 HA5.out.2.2.2.1 HA5.out.2.2.2.2.2.1 HA5.out.2.2.2.2.2.2.1 HA5.out.2.2.2.2.2.2.2⟩
                                        case rest => as_aux_lemma =>
                                          obtain ⟨t, rfl, rfl, B, n7, o7, l7, c7, n6, o6, l6, c6, p1, p2, p3, p4, p5, p6, p7⟩ := hcut
                                          obtain ⟨XD, hXD⟩ : ∃ Z0, Z0 = wc := ⟨_, rfl⟩
                                          subst hXD
                                          obtain ⟨n8, o8, l8, c8, ⟨g80, g81⟩, hi8, hl8, hf8⟩ := (HQQ.out.later p7).v3
                                          have HD : Hid (Ans B XD r n7 o7 l7 c7 (vq) ∧ Ans B XD t n6 o6 l6 c6 (vr) ∧ Parted o7 o6 ∧ (∀ p : Addr, o7 = some p → p.block ≠ t) ∧ QQ.heap.size ≤ B ∧ B ≤ XD.heap.size ∧ Below QQ.heap.size QQ XD ∧ IntAt XD n8 o8 l8 c8 (vq)) := ⟨p1, p2, p3, p4, p5, p6, p7, hi8⟩
                                          clear p1 p2 p3 p4 p5 p6 p7 HBDiv hi8 hl8 hf8
                                          go_upto_region 34 with fail
                                          obtain ⟨gx0, gx1⟩ := HD.out.1.box
                                          go_wp2_with (first
                                            | (go_at_call 20; have _t := HA8; refine (eqint_same nb b1 bo lb d1 lb cb (mag vb.natAbs) _ (HQQ.out.later HA8.out).rb (HQQ.out.later HA8.out).jb (by omega)).mono ?_; rintro e y9 ⟨rfl, hb9⟩; have HA9 : Hid (Below QQ.heap.size QQ y9) := HA8.out.trans (hb9.mono HA8.out.size); clear hb9)
                                            | (go_at_call 20; refine (eqint_same na a1 ao la c1 la ca (mag va.natAbs) _ (HQQ.out.later HA7.out).ra (HQQ.out.later HA7.out).ja (by omega)).mono ?_; rintro e y8 ⟨rfl, hb8⟩; have HA8 : Hid (Below QQ.heap.size QQ y8) := HA7.out.trans (hb8.mono HA7.out.size); clear hb8; obtain ⟨ub0, ub1⟩ := (HQQ.out.later HA8.out).bb; obtain ⟨f0, f1, f2, f3, f4⟩ := (HQQ.out.later HA8.out).p)
                                            | (go_at_call 15; have _t := HA6; refine (is_good B n6 m8 o6 p8 l6 c6 j8 e8 (vr) _ HD.out.2.1.sg (HD.out.2.1.own.stay HA6.out.2.1 HD.out.2.2.1) (Nat.le_trans HD.out.2.2.2.2.2.1 HA6.out.2.1.size) HI8.out (Nat.le_trans HD.out.2.1.len (by decide))).mono ?_; rintro e y7 ⟨rfl, hb7, _⟩; have HA7 : Hid (Below QQ.heap.size QQ y7) := HA6.out.1.trans (hb7.mono HD.out.2.2.2.2.1); clear hb7; obtain ⟨ua0, ua1⟩ := (HQQ.out.later HA7.out).ba; obtain ⟨e0, e1, e2, e3, e4⟩ := (HQQ.out.later HA7.out).p)
                                            | (go_at_call 15; refine (is_good B n7 n8 o7 o8 l7 c7 l8 c8 (vq) _ HD.out.1.sg HD.out.1.own HD.out.2.2.2.2.2.1 HD.out.2.2.2.2.2.2.2 (Nat.le_trans HD.out.1.len (by decide))).mono ?_; rintro e y6 ⟨rfl, hb6, hsy⟩; have HA6 : Hid (Below QQ.heap.size QQ y6 ∧ Stay o7 XD y6 ∧ True) := ⟨HD.out.2.2.2.2.2.2.1.trans (hb6.mono HD.out.2.2.2.2.1), hsy, trivial⟩; have gt0 := (hsy.cell (j := 0) HD.out.2.1.box.lt HD.out.2.2.2.1).trans HD.out.2.1.box.1; have gt1 := (hsy.cell (j := 1) HD.out.2.1.box.lt HD.out.2.2.2.1).trans HD.out.2.1.box.2; clear hb6 hsy; obtain ⟨m8, p8, j8, e8, ⟨h80, h81⟩, hi8, hl8, hf8⟩ := (HQQ.out.later HA6.out.1).v4; have HI8 : Hid (IntAt y6 m8 p8 j8 e8 (vr)) := hi8; clear hi8 hl8 hf8))
                                          go_roundw
                                          case rel => exact ⟨k + 1, by omega, by omega, by go_num, HQQ.out.bw.trans (HA9.out.mono HQQ.out.bw.size)⟩
                                          case measure => simp [intOf]; omega
      · as_aux_lemma =>
        have HH : Hid ((decide (30 < (la : Int)) || decide (30 < (lb : Int))) = true) := hhv
        clear hhv
        go_wp2_with (go_at_call 5; rw [← hT.eq]; refine (heavy_any na nb ao bo la ca lb cb N _ true HH.out).mono ?_; rintro e w1 ⟨rfl, hb1⟩)
        go_ret
        exact ⟨rfl, bnext hbW hb1⟩
    · as_aux_lemma =>
      by_cases he : k < len
      · have h40 : k = 40 := by omega
        subst h40
        go_wp2_with (go_at_call 21; refine (wakes_any _).mono ?_; rintro e w1 ⟨rfl, hb1⟩)
        go_ret
        exact ⟨rfl, bnext hbel hb1⟩
      · go_wp2_with (go_at_call 21; refine (wakes_any _).mono ?_; rintro e w1 ⟨rfl, hb1⟩)
        go_ret
        exact ⟨rfl, bnext hbel hb1⟩
end Go.Proofs.YtmjbmgjegiimfaaDoor
