/-
  RatExact: the walk. (gen/rexact.py)
-/
import Derived.Test.YtljmbnbilmghhaaGreatDoorRX
import Derived.Test.YtljmbnbilmghhaaGreatDoorSB
import Derived.Deep.DeepCutAuto
namespace Go.Proofs.YtljmbnbilmghhaaGreatDoor
open Go.RowKit
set_option linter.unusedVariables false
set_option linter.unusedSimpArgs false

set_option maxRecDepth 100000 in
set_option maxHeartbeats 40000000 in
theorem ratExact_any (lo : Option Addr) (len cap : Nat) (w : World) (hE : ElemsR w lo len) (hl : len ≤ 9223372036854775807) (hT0 : TabAt 0 Lib.deBruijn64tab w) (hP0 : Pow10 w) :
    Calls Tryz.prog 3 #[.slice lo len cap] w fun e w' => e = .returned (.bool true) ∧ Below w.heap.size w w' := by
  have HT : Hid (TabAt 0 Lib.deBruijn64tab w ∧ Pow10 w) := ⟨hT0, hP0⟩
  clear hT0 hP0
  go_enter Tryz.func3, Tryz.ntmps3
  go_wp2
  go_loopw [3] (fun i wr => ∃ k : Nat, k ≤ len ∧ k ≤ 30 ∧ i = .int .i64 k ∧ Below w.heap.size w wr) (fun i _ => 30 - (intOf i).toNat)
  case atStart => exact ⟨0, Nat.zero_le _, by omega, rfl, Below.refl _ _⟩
  case round =>
    obtain ⟨k, hk, hk30, rfl, hbel⟩ := hrel
    by_cases hlt : k < len ∧ k < 30
    · obtain ⟨hlt, hlt30⟩ := hlt
      obtain ⟨b, off, rfl, hbw, hel⟩ := hE k hlt
      obtain ⟨na, nb, ao, po, bo, qo, la, ca, lp, cp, lb, cb, lq, cq, N, x, d, y, f, ⟨h0, h1, h2, h3, h4, h5, h6⟩, r1, v1, r2, v2, r3, v3, r4, v4, hn1, hn2⟩ := hel.later hbel hbw
      obtain ⟨W, hT⟩ := InR.mk' wr na nb ao po bo qo la ca lp cp lb cb lq cq N
      have hsz := hT.size
      have hbW : Below w.heap.size w W := bnext hbel hT.below
      have hwW := hbW.size
      have HX : Hid (RowAt W .u64 ao la ca x ∧ RowAt W .u64 po lp cp d ∧ RowAt W .u64 bo lb cb y ∧ RowAt W .u64 qo lq cq f) := ⟨r1.later hT.below, r2.later hT.below, r3.later hT.below, r4.later hT.below⟩
      have HWd : Hid (Wd 18446744073709551616 x ∧ Wd 18446744073709551616 d ∧ Wd 18446744073709551616 y ∧ Wd 18446744073709551616 f) := ⟨v1, v2, v3, v4⟩
      clear r1 r2 r3 r4 v1 v2 v3 v4 hel
      cases hhv : ((decide ((8 : Int) < (la : Int)) || decide ((8 : Int) < (lp : Int))) || (decide ((8 : Int) < (lb : Int)) || decide ((8 : Int) < (lq : Int))))
      · have HH : Hid (((decide ((8 : Int) < (la : Int)) || decide ((8 : Int) < (lp : Int))) || (decide ((8 : Int) < (lb : Int)) || decide ((8 : Int) < (lq : Int)))) = false) := hhv
        have hla : la ≤ 8 := by simp at hhv; omega
        have hlp : lp ≤ 8 := by simp at hhv; omega
        have hlb : lb ≤ 8 := by simp at hhv; omega
        have hlq : lq ≤ 8 := by simp at hhv; omega
        clear hhv
        cases hm : (mayR na x d && mayR nb y f)
        · as_aux_lemma =>
          have HM : Hid ((mayR na x d && mayR nb y f) = false) := hm
          clear hm
          go_upto_region 11 with (first
            | (go_at_call 11; refine (two2_any na nb ao po bo qo la ca lp cp lb cb lq cq N x d y f _ (HX.out.1.later HV3.out.1) HWd.out.1 (HX.out.2.1.later HV3.out.1) HWd.out.2.1 (HX.out.2.2.1.later HV3.out.1) HWd.out.2.2.1 (HX.out.2.2.2.later HV3.out.1) HWd.out.2.2.2 (by omega) (by omega) (by omega) (by omega) 20 (by rw [HM.out]; rfl)).mono ?_; rintro e w4 ⟨rfl, hb4⟩; have HV4 : Hid (Boxed7 w4 wr.heap.size na nb ao po bo qo la ca lp cp lb cb lq cq N ∧ Boxed3 w4 w2.heap.size na a1 la c1 a2 lp e1 ∧ Boxed3 w4 w3.heap.size nb b1 lb d1 b2 lq f1 ∧ RowAt w4 .u64 a1 la c1 x ∧ RowAt w4 .u64 a2 lp e1 d ∧ RowAt w4 .u64 b1 lb d1 y ∧ RowAt w4 .u64 b2 lq f1 f ∧ Below W.heap.size W w4) := ⟨hT.p.later (bnext HV3.out.1 hb4) (by omega), HV3.out.2.1.later hb4 HV3.out.2.1.lt, HV3.out.2.2.1.later hb4 HV3.out.2.2.1.lt, HV3.out.2.2.2.1.later hb4, HV3.out.2.2.2.2.1.later hb4, HV3.out.2.2.2.2.2.1.later hb4, HV3.out.2.2.2.2.2.2.later hb4, bnext HV3.out.1 hb4⟩; clear u0 u1 u2 u3 u4 u5 u6 hb4)
            | (go_at_call 10; have _t := HV2; refine (copyRat_any nb bo qo lb cb lq cq y f _ (HX.out.2.2.1.later HV2.out.1) (HX.out.2.2.2.later HV2.out.1) (by omega) (by omega)).mono ?_; rintro e w3 ⟨b1, d1, b2, f1, rfl, hrb, hrf, hb3⟩; have HV3 : Hid (Below W.heap.size W (w3.alloc (.cells #[.bool nb, .slice b1 lb d1, .slice b2 lq f1] 28)) ∧ Boxed3 (w3.alloc (.cells #[.bool nb, .slice b1 lb d1, .slice b2 lq f1] 28)) w2.heap.size na a1 la c1 a2 lp e1 ∧ Boxed3 (w3.alloc (.cells #[.bool nb, .slice b1 lb d1, .slice b2 lq f1] 28)) w3.heap.size nb b1 lb d1 b2 lq f1 ∧ RowAt (w3.alloc (.cells #[.bool nb, .slice b1 lb d1, .slice b2 lq f1] 28)) .u64 a1 la c1 x ∧ RowAt (w3.alloc (.cells #[.bool nb, .slice b1 lb d1, .slice b2 lq f1] 28)) .u64 a2 lp e1 d ∧ RowAt (w3.alloc (.cells #[.bool nb, .slice b1 lb d1, .slice b2 lq f1] 28)) .u64 b1 lb d1 y ∧ RowAt (w3.alloc (.cells #[.bool nb, .slice b1 lb d1, .slice b2 lq f1] 28)) .u64 b2 lq f1 f) := (by have hA := below_alloc (o := .cells #[.bool nb, .slice b1 lb d1, .slice b2 lq f1] 28) (Below.refl w3.heap.size w3) (Nat.le_refl _); exact ⟨bnext (bnext HV2.out.1 hb3) hA, (HV2.out.2.1.later hb3 HV2.out.2.1.lt).later hA (Nat.lt_of_lt_of_le HV2.out.2.1.lt hb3.size), boxed3_new, (HV2.out.2.2.1.later hb3).later hA, (HV2.out.2.2.2.later hb3).later hA, hrb.later hA, hrf.later hA⟩); clear u0 u1 u2 u3 u4 u5 u6 hb3 hrb hrf; obtain ⟨u0, u1, u2, u3, u4, u5, u6⟩ := hT.p.later HV3.out.1 (by omega))
            | (go_at_call 10; refine (copyRat_any na ao po la ca lp cp x d _ (HX.out.1.later hb1) (HX.out.2.1.later hb1) (by omega) (by omega)).mono ?_; rintro e w2 ⟨a1, c1, a2, e1, rfl, hra, hrd, hb2⟩; have HV2 : Hid (Below W.heap.size W (w2.alloc (.cells #[.bool na, .slice a1 la c1, .slice a2 lp e1] 28)) ∧ Boxed3 (w2.alloc (.cells #[.bool na, .slice a1 la c1, .slice a2 lp e1] 28)) w2.heap.size na a1 la c1 a2 lp e1 ∧ RowAt (w2.alloc (.cells #[.bool na, .slice a1 la c1, .slice a2 lp e1] 28)) .u64 a1 la c1 x ∧ RowAt (w2.alloc (.cells #[.bool na, .slice a1 la c1, .slice a2 lp e1] 28)) .u64 a2 lp e1 d) := (by have hA := below_alloc (o := .cells #[.bool na, .slice a1 la c1, .slice a2 lp e1] 28) (Below.refl w2.heap.size w2) (Nat.le_refl _); exact ⟨bnext (bnext hb1 hb2) hA, boxed3_new, hra.later hA, hrd.later hA⟩); clear u0 u1 u2 u3 u4 u5 u6 hb2 hra hrd; obtain ⟨u0, u1, u2, u3, u4, u5, u6⟩ := hT.p.later HV2.out.1 (by omega))
            | (go_at_call 9; rw [← hT.eq]; refine (heavyR_any na nb ao po bo qo la ca lp cp lb cb lq cq N _ false HH.out).mono ?_; rintro e w1 ⟨rfl, hb1⟩; obtain ⟨u0, u1, u2, u3, u4, u5, u6⟩ := hT.p.later hb1 (by omega); clear h0 h1 h2 h3 h4 h5 h6))
          obtain ⟨rA, hrA⟩ : ∃ r, w2.heap.size = r := ⟨_, rfl⟩
          obtain ⟨rB, hrB⟩ : ∃ r, w3.heap.size = r := ⟨_, rfl⟩
          rw [hrA, hrB] at HV4
          rw [hrA, hrB]
          have HJ4 : Hid (RowAt w4 .u64 ao la ca x ∧ RowAt w4 .u64 po lp cp d ∧ RowAt w4 .u64 bo lb cb y ∧ RowAt w4 .u64 qo lq cq f ∧ Below w.heap.size w w4 ∧ wr.heap.size < w4.heap.size) := (by have hb := HV4.out.2.2.2.2.2.2.2; exact ⟨HX.out.1.later hb, HX.out.2.1.later hb, HX.out.2.2.1.later hb, HX.out.2.2.2.later hb, bnext hbW hb, by have := hb.size; omega⟩)
          clear HV2 HV3 hb1 hrA hrB
          go_cut [9, 10, 11, 12] (fun s9 s10 s11 s12 wx => ∃ g, s9 = .pointer (some ⟨g, 0, none⟩) ∧ s10 = .pointer (some ⟨g + 1, 0, none⟩) ∧ s11 = .pointer (some ⟨g + 2, 0, none⟩) ∧ s12 = .pointer (some ⟨g + 3, 0, none⟩) ∧ ExR w wx wr.heap.size rA rB g na nb ao po bo qo a1 a2 b1 b2 la ca lp cp lb cb lq cq c1 e1 d1 f1 N x d y f none none none none)
          case first => as_aux_lemma =>
            go_wp2
            go_meet
            exact ⟨_, rfl, rfl, rfl, rfl, ExR.new HV4.out.1 HV4.out.2.1 HV4.out.2.2.1 HV4.out.2.2.2.1 HV4.out.2.2.2.2.1 HV4.out.2.2.2.2.2.1 HV4.out.2.2.2.2.2.2.1 HJ4.out.1 HJ4.out.2.1 HJ4.out.2.2.1 HJ4.out.2.2.2.1 HJ4.out.2.2.2.2.2 HJ4.out.2.2.2.2.1⟩
          case rest => as_aux_lemma =>
            obtain ⟨g, rfl, rfl, rfl, rfl, hex⟩ := hcut
            obtain ⟨Z0, hZ0⟩ : ∃ Z0, Z0 = wc := ⟨_, rfl⟩
            subst hZ0
            have HE0 : Hid (ExR w Z0 wr.heap.size rA rB g na nb ao po bo qo a1 a2 b1 b2 la ca lp cp lb cb lq cq c1 e1 d1 f1 N x d y f none none none none) := hex
            clear hex HV4 HJ4
            go_upto_region 20 with fail
            go_cut [13, 14] (fun s15 s16 wx => ∃ r, s15 = .pointer (some ⟨r, 0, none⟩) ∧ s16 = .int .i64 20 ∧ NilRAt Z0 wx r)
            case first => as_aux_lemma =>
              -- region 20
              obtain ⟨ga0, ga1, ga2⟩ := (HE0.out.later (Below.refl _ _)).ba
              obtain ⟨gb0, gb1, gb2⟩ := (HE0.out.later (Below.refl _ _)).bb
              go_wp2_with (go_at_call 17; refine (radd_bad na nb a1 a2 b1 b2 la c1 lp e1 lb d1 lq f1 x d y f _ (HE0.out.later (Below.refl _ _)).ra HWd.out.1 (HE0.out.later (Below.refl _ _)).rd HWd.out.2.1 (HE0.out.later (Below.refl _ _)).rb HWd.out.2.2.1 (HE0.out.later (Below.refl _ _)).rf HWd.out.2.2.2 (by omega) (by omega) (by omega) (by omega) (tab_later HT.out.1 (HE0.out.later (Below.refl _ _)).bw) HM.out).mono ?_; rintro e y5 ⟨rfl, hb5⟩; have HA5 : Hid (Below Z0.heap.size Z0 y5) := hb5)
              go_meet
              exact ⟨_, rfl, rfl, nil_new HA5.out⟩
            case rest => as_aux_lemma =>
              obtain ⟨r, rfl, rfl, hans⟩ := hcut
              obtain ⟨XAdd, hXAdd⟩ : ∃ Z0, Z0 = wc := ⟨_, rfl⟩
              subst hXAdd
              have hrK : Z0.heap.size ≤ r := hans.2.2.1
              have HNAdd : Hid (NilRAt Z0 XAdd r) := hans
              clear hans
              go_upto_region 21 with fail
              go_cut [68] (fun s9 wx => s9 = .bool false ∧ Slot3 wx r ∧ Below Z0.heap.size Z0 wx)
              case first => as_aux_lemma =>
                -- region 21
                obtain ⟨gx0, gx1, gx2⟩ := HNAdd.out.1
                obtain ⟨n8, o8, l8, c8, p8, m8, k8, ⟨g80, g81, g82⟩, hi8, hf8⟩ := (HE0.out.later HNAdd.out.2.2.2).v0
                clear hi8 hf8
                go_wp2_with (go_at_call 18; refine (is2_bad n8 o8 p8 l8 c8 m8 k8 20 _ (by decide)).mono ?_; rintro e y6 ⟨rfl, hb6⟩; have HA6 : Hid (Below XAdd.heap.size XAdd y6) := hb6; have HA7 : Hid (Below Z0.heap.size Z0 y6) := HNAdd.out.2.2.2.trans (hb6.mono HNAdd.out.2.2.2.size); clear hb6)
                go_meet
                exact ⟨rfl, HNAdd.out.2.1.at HA6.out HNAdd.out.2.1.lt, HA7.out⟩
              case rest => as_aux_lemma =>
                obtain ⟨rfl, hsl, hbZ⟩ := hcut
                obtain ⟨YSub, hYSub⟩ : ∃ Z0, Z0 = wc := ⟨_, rfl⟩
                subst hYSub
                have HBSub : Hid (Slot3 YSub r ∧ Below Z0.heap.size Z0 YSub) := ⟨hsl, hbZ⟩
                clear hsl hbZ HNAdd
                go_upto_region 23 with fail
                go_cut [14] (fun s16 wx => s16 = .int .i64 20 ∧ NilRAt Z0 wx r)
                case first => as_aux_lemma =>
                  -- region 23
                  obtain ⟨ga0, ga1, ga2⟩ := (HE0.out.later HBSub.out.2).ba
                  obtain ⟨gb0, gb1, gb2⟩ := (HE0.out.later HBSub.out.2).bb
                  go_wp2_with (go_at_call 19; refine (rsub_bad na nb a1 a2 b1 b2 la c1 lp e1 lb d1 lq f1 x d y f _ (HE0.out.later HBSub.out.2).ra HWd.out.1 (HE0.out.later HBSub.out.2).rd HWd.out.2.1 (HE0.out.later HBSub.out.2).rb HWd.out.2.2.1 (HE0.out.later HBSub.out.2).rf HWd.out.2.2.2 (by omega) (by omega) (by omega) (by omega) (tab_later HT.out.1 (HE0.out.later HBSub.out.2).bw) HM.out).mono ?_; rintro e y5 ⟨rfl, hb5⟩; have HA5 : Hid (Below YSub.heap.size YSub y5) := hb5; obtain ⟨⟨n9, o9, l9, c9, p9, m9, k9, s0, s1, s2⟩, s3⟩ := HBSub.out.1.at hb5 HBSub.out.1.lt)
                  go_meet
                  exact ⟨rfl, nil_put HBSub.out.1 hrK HBSub.out.2 HA5.out⟩
                case rest => as_aux_lemma =>
                  obtain ⟨rfl, hans⟩ := hcut
                  obtain ⟨XSub, hXSub⟩ : ∃ Z0, Z0 = wc := ⟨_, rfl⟩
                  subst hXSub
                  clear HBSub
                  have HNSub : Hid (NilRAt Z0 XSub r) := hans
                  clear hans
                  go_upto_region 24 with fail
                  go_cut [80] (fun s9 wx => s9 = .bool false ∧ Slot3 wx r ∧ Below Z0.heap.size Z0 wx)
                  case first => as_aux_lemma =>
                    -- region 24
                    obtain ⟨gx0, gx1, gx2⟩ := HNSub.out.1
                    obtain ⟨n8, o8, l8, c8, p8, m8, k8, ⟨g80, g81, g82⟩, hi8, hf8⟩ := (HE0.out.later HNSub.out.2.2.2).v1
                    clear hi8 hf8
                    go_wp2_with (go_at_call 18; refine (is2_bad n8 o8 p8 l8 c8 m8 k8 20 _ (by decide)).mono ?_; rintro e y6 ⟨rfl, hb6⟩; have HA6 : Hid (Below XSub.heap.size XSub y6) := hb6; have HA7 : Hid (Below Z0.heap.size Z0 y6) := HNSub.out.2.2.2.trans (hb6.mono HNSub.out.2.2.2.size); clear hb6)
                    go_meet
                    exact ⟨rfl, HNSub.out.2.1.at HA6.out HNSub.out.2.1.lt, HA7.out⟩
                  case rest => as_aux_lemma =>
                    obtain ⟨rfl, hsl, hbZ⟩ := hcut
                    obtain ⟨YMul, hYMul⟩ : ∃ Z0, Z0 = wc := ⟨_, rfl⟩
                    subst hYMul
                    have HBMul : Hid (Slot3 YMul r ∧ Below Z0.heap.size Z0 YMul) := ⟨hsl, hbZ⟩
                    clear hsl hbZ HNSub
                    go_upto_region 26 with fail
                    go_cut [14] (fun s16 wx => s16 = .int .i64 20 ∧ NilRAt Z0 wx r)
                    case first => as_aux_lemma =>
                      -- region 26
                      obtain ⟨ga0, ga1, ga2⟩ := (HE0.out.later HBMul.out.2).ba
                      obtain ⟨gb0, gb1, gb2⟩ := (HE0.out.later HBMul.out.2).bb
                      go_wp2_with (go_at_call 20; refine (rmul_bad na nb a1 a2 b1 b2 la c1 lp e1 lb d1 lq f1 x d y f _ (HE0.out.later HBMul.out.2).ra HWd.out.1 (HE0.out.later HBMul.out.2).rd HWd.out.2.1 (HE0.out.later HBMul.out.2).rb HWd.out.2.2.1 (HE0.out.later HBMul.out.2).rf HWd.out.2.2.2 (by omega) (by omega) (by omega) (by omega) (tab_later HT.out.1 (HE0.out.later HBMul.out.2).bw) HM.out).mono ?_; rintro e y5 ⟨rfl, hb5⟩; have HA5 : Hid (Below YMul.heap.size YMul y5) := hb5; obtain ⟨⟨n9, o9, l9, c9, p9, m9, k9, s0, s1, s2⟩, s3⟩ := HBMul.out.1.at hb5 HBMul.out.1.lt)
                      go_meet
                      exact ⟨rfl, nil_put HBMul.out.1 hrK HBMul.out.2 HA5.out⟩
                    case rest => as_aux_lemma =>
                      obtain ⟨rfl, hans⟩ := hcut
                      obtain ⟨XMul, hXMul⟩ : ∃ Z0, Z0 = wc := ⟨_, rfl⟩
                      subst hXMul
                      clear HBMul
                      have HNMul : Hid (NilRAt Z0 XMul r) := hans
                      clear hans
                      go_upto_region 27 with fail
                      go_cut [92] (fun s9 wx => s9 = .bool false ∧ Slot3 wx r ∧ Below Z0.heap.size Z0 wx)
                      case first => as_aux_lemma =>
                        -- region 27
                        obtain ⟨gx0, gx1, gx2⟩ := HNMul.out.1
                        obtain ⟨n8, o8, l8, c8, p8, m8, k8, ⟨g80, g81, g82⟩, hi8, hf8⟩ := (HE0.out.later HNMul.out.2.2.2).v2
                        clear hi8 hf8
                        go_wp2_with (go_at_call 18; refine (is2_bad n8 o8 p8 l8 c8 m8 k8 20 _ (by decide)).mono ?_; rintro e y6 ⟨rfl, hb6⟩; have HA6 : Hid (Below XMul.heap.size XMul y6) := hb6; have HA7 : Hid (Below Z0.heap.size Z0 y6) := HNMul.out.2.2.2.trans (hb6.mono HNMul.out.2.2.2.size); clear hb6)
                        go_meet
                        exact ⟨rfl, HNMul.out.2.1.at HA6.out HNMul.out.2.1.lt, HA7.out⟩
                      case rest => as_aux_lemma =>
                        obtain ⟨rfl, hsl, hbZ⟩ := hcut
                        obtain ⟨YDiv, hYDiv⟩ : ∃ Z0, Z0 = wc := ⟨_, rfl⟩
                        subst hYDiv
                        have HBDiv : Hid (Slot3 YDiv r ∧ Below Z0.heap.size Z0 YDiv) := ⟨hsl, hbZ⟩
                        clear hsl hbZ HNMul
                        go_upto_region 29 with fail
                        go_cut [14] (fun s16 wx => s16 = .int .i64 20 ∧ NilRAt Z0 wx r)
                        case first => as_aux_lemma =>
                          -- region 29
                          obtain ⟨ga0, ga1, ga2⟩ := (HE0.out.later HBDiv.out.2).ba
                          obtain ⟨gb0, gb1, gb2⟩ := (HE0.out.later HBDiv.out.2).bb
                          go_wp2_with (go_at_call 21; refine (rdiv_bad na nb a1 a2 b1 b2 la c1 lp e1 lb d1 lq f1 x d y f _ (HE0.out.later HBDiv.out.2).ra HWd.out.1 (HE0.out.later HBDiv.out.2).rd HWd.out.2.1 (HE0.out.later HBDiv.out.2).rb HWd.out.2.2.1 (HE0.out.later HBDiv.out.2).rf HWd.out.2.2.2 (by omega) (by omega) (by omega) (by omega) (tab_later HT.out.1 (HE0.out.later HBDiv.out.2).bw) HM.out).mono ?_; rintro e y5 ⟨rfl, hb5⟩; have HA5 : Hid (Below YDiv.heap.size YDiv y5) := hb5; obtain ⟨⟨n9, o9, l9, c9, p9, m9, k9, s0, s1, s2⟩, s3⟩ := HBDiv.out.1.at hb5 HBDiv.out.1.lt)
                          go_meet
                          exact ⟨rfl, nil_put HBDiv.out.1 hrK HBDiv.out.2 HA5.out⟩
                        case rest => as_aux_lemma =>
                          obtain ⟨rfl, hans⟩ := hcut
                          obtain ⟨XDiv, hXDiv⟩ : ∃ Z0, Z0 = wc := ⟨_, rfl⟩
                          subst hXDiv
                          clear HBDiv
                          have HNDiv : Hid (NilRAt Z0 XDiv r) := hans
                          clear hans
                          go_upto_region 30 with fail
                          -- region 30
                          obtain ⟨gx0, gx1, gx2⟩ := HNDiv.out.1
                          obtain ⟨n8, o8, l8, c8, p8, m8, k8, ⟨g80, g81, g82⟩, hi8, hf8⟩ := (HE0.out.later HNDiv.out.2.2.2).v3
                          clear hi8 hf8
                          go_wp2_with (first
                            | (go_at_call 22; have _t := HA8; refine (eqraw_same nb b1 b2 bo qo lb d1 lq f1 lb cb lq cq y f _ (HE0.out.later HA8.out).rb (HE0.out.later HA8.out).rf (HE0.out.later HA8.out).jb (HE0.out.later HA8.out).jf (by omega) (by omega)).mono ?_; rintro e y9 ⟨rfl, hb9⟩; have HA9 : Hid (Below Z0.heap.size Z0 y9) := HA8.out.trans (hb9.mono HA8.out.size); clear hb9)
                            | (go_at_call 22; refine (eqraw_same na a1 a2 ao po la c1 lp e1 la ca lp cp x d _ (HE0.out.later HA7.out).ra (HE0.out.later HA7.out).rd (HE0.out.later HA7.out).ja (HE0.out.later HA7.out).jd (by omega) (by omega)).mono ?_; rintro e y8 ⟨rfl, hb8⟩; have HA8 : Hid (Below Z0.heap.size Z0 y8) := HA7.out.trans (hb8.mono HA7.out.size); clear hb8; obtain ⟨ub0, ub1, ub2⟩ := (HE0.out.later HA8.out).bb; obtain ⟨f0, f1', f2, f3, f4, f5, f6⟩ := (HE0.out.later HA8.out).p)
                            | (go_at_call 18; refine (is2_bad n8 o8 p8 l8 c8 m8 k8 20 _ (by decide)).mono ?_; rintro e y6 ⟨rfl, hb6⟩; have HA6 : Hid (Below XDiv.heap.size XDiv y6) := hb6; have HA7 : Hid (Below Z0.heap.size Z0 y6) := HNDiv.out.2.2.2.trans (hb6.mono HNDiv.out.2.2.2.size); clear hb6; obtain ⟨ua0, ua1, ua2⟩ := (HE0.out.later HA7.out).ba; obtain ⟨e0, e1', e2, e3, e4, e5, e6⟩ := (HE0.out.later HA7.out).p))
                          go_roundw
                          case rel => exact ⟨k + 1, by omega, by omega, by go_num, HE0.out.bw.trans (HA9.out.mono HE0.out.bw.size)⟩
                          case measure => simp [intOf]; omega
        · as_aux_lemma =>
          obtain ⟨hm1, hm2⟩ : mayR na x d = true ∧ mayR nb y f = true := by simpa using hm
          obtain ⟨va, hIa, hxa, hda⟩ := rat_of_may HX.out.1 HWd.out.1 HX.out.2.1 HWd.out.2.1 hm1
          obtain ⟨vb, hIb, hyb, hfb⟩ := rat_of_may HX.out.2.2.1 HWd.out.2.2.1 HX.out.2.2.2 HWd.out.2.2.2 hm2
          have HM : Hid ((mayR na x d && mayR nb y f) = true) := hm
          have HSG : Hid (na = sgB va.num ∧ nb = sgB vb.num) := ⟨hIa.num.sg, hIb.num.sg⟩
          have HSz : Hid (Sz va 8 ∧ Sz vb 8) := ⟨⟨by rw [← hIa.num.row.hlen]; exact hla, by rw [← hIa.den.hlen]; exact hlp⟩, ⟨by rw [← hIb.num.row.hlen]; exact hlb, by rw [← hIb.den.hlen]; exact hlq⟩⟩
          clear hm hm1 hm2 hIa hIb
          subst hxa hda hyb hfb
          go_upto_region 11 with (first
            | (go_at_call 11; refine (two2_any na nb ao po bo qo la ca lp cp lb cb lq cq N (mag va.num.natAbs) (mag va.den) (mag vb.num.natAbs) (mag vb.den) _ (HX.out.1.later HV3.out.1) HWd.out.1 (HX.out.2.1.later HV3.out.1) HWd.out.2.1 (HX.out.2.2.1.later HV3.out.1) HWd.out.2.2.1 (HX.out.2.2.2.later HV3.out.1) HWd.out.2.2.2 (by omega) (by omega) (by omega) (by omega) 0 (by rw [HM.out]; rfl)).mono ?_; rintro e w4 ⟨rfl, hb4⟩; have HV4 : Hid (Boxed7 w4 wr.heap.size na nb ao po bo qo la ca lp cp lb cb lq cq N ∧ Boxed3 w4 w2.heap.size na a1 la c1 a2 lp e1 ∧ Boxed3 w4 w3.heap.size nb b1 lb d1 b2 lq f1 ∧ RowAt w4 .u64 a1 la c1 (mag va.num.natAbs) ∧ RowAt w4 .u64 a2 lp e1 (mag va.den) ∧ RowAt w4 .u64 b1 lb d1 (mag vb.num.natAbs) ∧ RowAt w4 .u64 b2 lq f1 (mag vb.den) ∧ Below W.heap.size W w4) := ⟨hT.p.later (bnext HV3.out.1 hb4) (by omega), HV3.out.2.1.later hb4 HV3.out.2.1.lt, HV3.out.2.2.1.later hb4 HV3.out.2.2.1.lt, HV3.out.2.2.2.1.later hb4, HV3.out.2.2.2.2.1.later hb4, HV3.out.2.2.2.2.2.1.later hb4, HV3.out.2.2.2.2.2.2.later hb4, bnext HV3.out.1 hb4⟩; clear u0 u1 u2 u3 u4 u5 u6 hb4)
            | (go_at_call 10; have _t := HV2; refine (copyRat_any nb bo qo lb cb lq cq (mag vb.num.natAbs) (mag vb.den) _ (HX.out.2.2.1.later HV2.out.1) (HX.out.2.2.2.later HV2.out.1) (by omega) (by omega)).mono ?_; rintro e w3 ⟨b1, d1, b2, f1, rfl, hrb, hrf, hb3⟩; have HV3 : Hid (Below W.heap.size W (w3.alloc (.cells #[.bool nb, .slice b1 lb d1, .slice b2 lq f1] 28)) ∧ Boxed3 (w3.alloc (.cells #[.bool nb, .slice b1 lb d1, .slice b2 lq f1] 28)) w2.heap.size na a1 la c1 a2 lp e1 ∧ Boxed3 (w3.alloc (.cells #[.bool nb, .slice b1 lb d1, .slice b2 lq f1] 28)) w3.heap.size nb b1 lb d1 b2 lq f1 ∧ RowAt (w3.alloc (.cells #[.bool nb, .slice b1 lb d1, .slice b2 lq f1] 28)) .u64 a1 la c1 (mag va.num.natAbs) ∧ RowAt (w3.alloc (.cells #[.bool nb, .slice b1 lb d1, .slice b2 lq f1] 28)) .u64 a2 lp e1 (mag va.den) ∧ RowAt (w3.alloc (.cells #[.bool nb, .slice b1 lb d1, .slice b2 lq f1] 28)) .u64 b1 lb d1 (mag vb.num.natAbs) ∧ RowAt (w3.alloc (.cells #[.bool nb, .slice b1 lb d1, .slice b2 lq f1] 28)) .u64 b2 lq f1 (mag vb.den)) := (by have hA := below_alloc (o := .cells #[.bool nb, .slice b1 lb d1, .slice b2 lq f1] 28) (Below.refl w3.heap.size w3) (Nat.le_refl _); exact ⟨bnext (bnext HV2.out.1 hb3) hA, (HV2.out.2.1.later hb3 HV2.out.2.1.lt).later hA (Nat.lt_of_lt_of_le HV2.out.2.1.lt hb3.size), boxed3_new, (HV2.out.2.2.1.later hb3).later hA, (HV2.out.2.2.2.later hb3).later hA, hrb.later hA, hrf.later hA⟩); clear u0 u1 u2 u3 u4 u5 u6 hb3 hrb hrf; obtain ⟨u0, u1, u2, u3, u4, u5, u6⟩ := hT.p.later HV3.out.1 (by omega))
            | (go_at_call 10; refine (copyRat_any na ao po la ca lp cp (mag va.num.natAbs) (mag va.den) _ (HX.out.1.later hb1) (HX.out.2.1.later hb1) (by omega) (by omega)).mono ?_; rintro e w2 ⟨a1, c1, a2, e1, rfl, hra, hrd, hb2⟩; have HV2 : Hid (Below W.heap.size W (w2.alloc (.cells #[.bool na, .slice a1 la c1, .slice a2 lp e1] 28)) ∧ Boxed3 (w2.alloc (.cells #[.bool na, .slice a1 la c1, .slice a2 lp e1] 28)) w2.heap.size na a1 la c1 a2 lp e1 ∧ RowAt (w2.alloc (.cells #[.bool na, .slice a1 la c1, .slice a2 lp e1] 28)) .u64 a1 la c1 (mag va.num.natAbs) ∧ RowAt (w2.alloc (.cells #[.bool na, .slice a1 la c1, .slice a2 lp e1] 28)) .u64 a2 lp e1 (mag va.den)) := (by have hA := below_alloc (o := .cells #[.bool na, .slice a1 la c1, .slice a2 lp e1] 28) (Below.refl w2.heap.size w2) (Nat.le_refl _); exact ⟨bnext (bnext hb1 hb2) hA, boxed3_new, hra.later hA, hrd.later hA⟩); clear u0 u1 u2 u3 u4 u5 u6 hb2 hra hrd; obtain ⟨u0, u1, u2, u3, u4, u5, u6⟩ := hT.p.later HV2.out.1 (by omega))
            | (go_at_call 9; rw [← hT.eq]; refine (heavyR_any na nb ao po bo qo la ca lp cp lb cb lq cq N _ false HH.out).mono ?_; rintro e w1 ⟨rfl, hb1⟩; obtain ⟨u0, u1, u2, u3, u4, u5, u6⟩ := hT.p.later hb1 (by omega); clear h0 h1 h2 h3 h4 h5 h6))
          obtain ⟨rA, hrA⟩ : ∃ r, w2.heap.size = r := ⟨_, rfl⟩
          obtain ⟨rB, hrB⟩ : ∃ r, w3.heap.size = r := ⟨_, rfl⟩
          rw [hrA, hrB] at HV4
          rw [hrA, hrB]
          have HJ4 : Hid (RowAt w4 .u64 ao la ca (mag va.num.natAbs) ∧ RowAt w4 .u64 po lp cp (mag va.den) ∧ RowAt w4 .u64 bo lb cb (mag vb.num.natAbs) ∧ RowAt w4 .u64 qo lq cq (mag vb.den) ∧ Below w.heap.size w w4 ∧ wr.heap.size < w4.heap.size) := (by have hb := HV4.out.2.2.2.2.2.2.2; exact ⟨HX.out.1.later hb, HX.out.2.1.later hb, HX.out.2.2.1.later hb, HX.out.2.2.2.later hb, bnext hbW hb, by have := hb.size; omega⟩)
          clear HV2 HV3 hb1 hrA hrB
          go_cut [9, 10, 11, 12] (fun s9 s10 s11 s12 wx => ∃ g, s9 = .pointer (some ⟨g, 0, none⟩) ∧ s10 = .pointer (some ⟨g + 1, 0, none⟩) ∧ s11 = .pointer (some ⟨g + 2, 0, none⟩) ∧ s12 = .pointer (some ⟨g + 3, 0, none⟩) ∧ ExR w wx wr.heap.size rA rB g na nb ao po bo qo a1 a2 b1 b2 la ca lp cp lb cb lq cq c1 e1 d1 f1 N (mag va.num.natAbs) (mag va.den) (mag vb.num.natAbs) (mag vb.den) none none none none)
          case first => as_aux_lemma =>
            go_wp2
            go_meet
            exact ⟨_, rfl, rfl, rfl, rfl, ExR.new HV4.out.1 HV4.out.2.1 HV4.out.2.2.1 HV4.out.2.2.2.1 HV4.out.2.2.2.2.1 HV4.out.2.2.2.2.2.1 HV4.out.2.2.2.2.2.2.1 HJ4.out.1 HJ4.out.2.1 HJ4.out.2.2.1 HJ4.out.2.2.2.1 HJ4.out.2.2.2.2.2 HJ4.out.2.2.2.2.1⟩
          case rest => as_aux_lemma =>
            obtain ⟨g, rfl, rfl, rfl, rfl, hex⟩ := hcut
            obtain ⟨Z0, hZ0⟩ : ∃ Z0, Z0 = wc := ⟨_, rfl⟩
            subst hZ0
            have HE0 : Hid (ExR w Z0 wr.heap.size rA rB g na nb ao po bo qo a1 a2 b1 b2 la ca lp cp lb cb lq cq c1 e1 d1 f1 N (mag va.num.natAbs) (mag va.den) (mag vb.num.natAbs) (mag vb.den) none none none none) := hex
            clear hex HV4 HJ4
            go_upto_region 13 with fail
            go_cut [44] (fun s9 wx => ExR w wx wr.heap.size rA rB g na nb ao po bo qo a1 a2 b1 b2 la ca lp cp lb cb lq cq c1 e1 d1 f1 N (mag va.num.natAbs) (mag va.den) (mag vb.num.natAbs) (mag vb.den) (some (va + vb)) none none none)
            case first => as_aux_lemma =>
              -- region 13
              obtain ⟨ga0, ga1, ga2⟩ := HE0.out.ba
              obtain ⟨gb0, gb1, gb2⟩ := HE0.out.bb
              go_wp2_with (go_at_call 12; refine (qplus_any na nb a1 a2 b1 b2 la c1 lp e1 lb d1 lq f1 va vb _ ⟨⟨HSG.out.1, HE0.out.ra⟩, HE0.out.rd⟩ ⟨⟨HSG.out.2, HE0.out.rb⟩, HE0.out.rf⟩ (HSz.out.1.mono (by decide)) (HSz.out.2.mono (by decide))).mono ?_; rintro e y5 ⟨n5, o5, l5, c5, p5, m5, k5, rfl, hi5, hb5⟩; have HA5 : Hid (RatAt y5 n5 o5 l5 c5 p5 m5 k5 (va + vb) ∧ Below Z0.heap.size Z0 y5) := ⟨hi5, hb5⟩; obtain ⟨⟨n9, o9, l9, c9, p9, m9, k9, s0, s1, s2⟩, s3⟩ := (HE0.out.v0.later hb5).slot; clear hi5)
              go_meet
              exact ExR.put0 HE0.out HA5.out.2 HA5.out.1
            case rest => as_aux_lemma =>
              have HE1 : Hid (ExR w wc wr.heap.size rA rB g na nb ao po bo qo a1 a2 b1 b2 la ca lp cp lb cb lq cq c1 e1 d1 f1 N (mag va.num.natAbs) (mag va.den) (mag vb.num.natAbs) (mag vb.den) (some (va + vb)) none none none) := hcut
              clear hcut HE0
              obtain ⟨Z1, hZ⟩ : ∃ Z0, Z0 = wc := ⟨_, rfl⟩
              rw [← hZ] at HE1
              rw [← hZ]
              clear hZ
              go_upto_region 14 with fail
              go_cut [47] (fun s9 wx => ExR w wx wr.heap.size rA rB g na nb ao po bo qo a1 a2 b1 b2 la ca lp cp lb cb lq cq c1 e1 d1 f1 N (mag va.num.natAbs) (mag va.den) (mag vb.num.natAbs) (mag vb.den) (some (va + vb)) (some (va - vb)) none none)
              case first => as_aux_lemma =>
                -- region 14
                obtain ⟨ga0, ga1, ga2⟩ := HE1.out.ba
                obtain ⟨gb0, gb1, gb2⟩ := HE1.out.bb
                go_wp2_with (go_at_call 13; refine (qless_any na nb a1 a2 b1 b2 la c1 lp e1 lb d1 lq f1 va vb _ ⟨⟨HSG.out.1, HE1.out.ra⟩, HE1.out.rd⟩ ⟨⟨HSG.out.2, HE1.out.rb⟩, HE1.out.rf⟩ (HSz.out.1.mono (by decide)) (HSz.out.2.mono (by decide))).mono ?_; rintro e y5 ⟨n5, o5, l5, c5, p5, m5, k5, rfl, hi5, hb5⟩; have HA5 : Hid (RatAt y5 n5 o5 l5 c5 p5 m5 k5 (va - vb) ∧ Below Z1.heap.size Z1 y5) := ⟨hi5, hb5⟩; obtain ⟨⟨n9, o9, l9, c9, p9, m9, k9, s0, s1, s2⟩, s3⟩ := (HE1.out.v1.later hb5).slot; clear hi5)
                go_meet
                exact ExR.put1 HE1.out HA5.out.2 HA5.out.1
              case rest => as_aux_lemma =>
                have HE2 : Hid (ExR w wc wr.heap.size rA rB g na nb ao po bo qo a1 a2 b1 b2 la ca lp cp lb cb lq cq c1 e1 d1 f1 N (mag va.num.natAbs) (mag va.den) (mag vb.num.natAbs) (mag vb.den) (some (va + vb)) (some (va - vb)) none none) := hcut
                clear hcut HE1
                obtain ⟨Z2, hZ⟩ : ∃ Z0, Z0 = wc := ⟨_, rfl⟩
                rw [← hZ] at HE2
                rw [← hZ]
                clear hZ
                go_upto_region 15 with fail
                go_cut [50] (fun s9 wx => ExR w wx wr.heap.size rA rB g na nb ao po bo qo a1 a2 b1 b2 la ca lp cp lb cb lq cq c1 e1 d1 f1 N (mag va.num.natAbs) (mag va.den) (mag vb.num.natAbs) (mag vb.den) (some (va + vb)) (some (va - vb)) (some (va * vb)) none)
                case first => as_aux_lemma =>
                  -- region 15
                  obtain ⟨ga0, ga1, ga2⟩ := HE2.out.ba
                  obtain ⟨gb0, gb1, gb2⟩ := HE2.out.bb
                  go_wp2_with (go_at_call 14; refine (qtimes_any na nb a1 a2 b1 b2 la c1 lp e1 lb d1 lq f1 va vb _ ⟨⟨HSG.out.1, HE2.out.ra⟩, HE2.out.rd⟩ ⟨⟨HSG.out.2, HE2.out.rb⟩, HE2.out.rf⟩ (HSz.out.1.mono (by decide)) (HSz.out.2.mono (by decide))).mono ?_; rintro e y5 ⟨n5, o5, l5, c5, p5, m5, k5, rfl, hi5, hb5⟩; have HA5 : Hid (RatAt y5 n5 o5 l5 c5 p5 m5 k5 (va * vb) ∧ Below Z2.heap.size Z2 y5) := ⟨hi5, hb5⟩; obtain ⟨⟨n9, o9, l9, c9, p9, m9, k9, s0, s1, s2⟩, s3⟩ := (HE2.out.v2.later hb5).slot; clear hi5)
                  go_meet
                  exact ExR.put2 HE2.out HA5.out.2 HA5.out.1
                case rest => as_aux_lemma =>
                  have HE3 : Hid (ExR w wc wr.heap.size rA rB g na nb ao po bo qo a1 a2 b1 b2 la ca lp cp lb cb lq cq c1 e1 d1 f1 N (mag va.num.natAbs) (mag va.den) (mag vb.num.natAbs) (mag vb.den) (some (va + vb)) (some (va - vb)) (some (va * vb)) none) := hcut
                  clear hcut HE2
                  obtain ⟨Z3, hZ⟩ : ∃ Z0, Z0 = wc := ⟨_, rfl⟩
                  rw [← hZ] at HE3
                  rw [← hZ]
                  clear hZ
                  by_cases hlz : lb = 0
                  · as_aux_lemma =>
                    have hlb0 : ((lb : Int) == 0) = true := (by simp; omega)
                    have HLZ : Hid (lb = 0) := hlz
                    clear hlz
                    obtain ⟨gb0, gb1, gb2⟩ := HE3.out.bb
                    go_upto_region 20 with (go_at_call 15; refine (qzero_any nb b1 b2 lb d1 lq f1 _ true hlb0).mono ?_; rintro e ZZ ⟨rfl, hb5⟩; have HZZ : Hid (ExR w ZZ wr.heap.size rA rB g na nb ao po bo qo a1 a2 b1 b2 la ca lp cp lb cb lq cq c1 e1 d1 f1 N (mag va.num.natAbs) (mag va.den) (mag vb.num.natAbs) (mag vb.den) (some (va + vb)) (some (va - vb)) (some (va * vb)) none) := HE3.out.later hb5; clear hb5 gb0 gb1 gb2)
                    go_cut [13, 14] (fun s15 s16 wx => ∃ r, s15 = .pointer (some ⟨r, 0, none⟩) ∧ s16 = .int .i64 0 ∧ AnsRAt ZZ wx r (va + vb))
                    case first => as_aux_lemma =>
                      -- region 20
                      obtain ⟨ga0, ga1, ga2⟩ := (HZZ.out.later (Below.refl _ _)).ba
                      obtain ⟨gb0, gb1, gb2⟩ := (HZZ.out.later (Below.refl _ _)).bb
                      go_wp2_with (go_at_call 17; refine (add_rat na nb a1 a2 b1 b2 la c1 lp e1 lb d1 lq f1 va vb _ ⟨⟨HSG.out.1, (HZZ.out.later (Below.refl _ _)).ra⟩, (HZZ.out.later (Below.refl _ _)).rd⟩ ⟨⟨HSG.out.2, (HZZ.out.later (Below.refl _ _)).rb⟩, (HZZ.out.later (Below.refl _ _)).rf⟩ (HSz.out.1.mono (by decide)) (HSz.out.2.mono (by decide)) (tab_later HT.out.1 (HZZ.out.later (Below.refl _ _)).bw)).mono ?_; rintro e y5 ⟨n5, o5, l5, c5, p5, m5, k5, rfl, hs5, ho5, hp5, hpt5, hb5⟩; have HA5 : Hid (n5 = sgB (va + vb).num ∧ Own ZZ.heap.size y5 .u64 66 o5 l5 c5 (mag (va + vb).num.natAbs) ∧ Own ZZ.heap.size y5 .u64 66 p5 m5 k5 (mag (va + vb).den) ∧ Parted o5 p5 ∧ Below ZZ.heap.size ZZ y5 ∧ l5 ≤ 1000 ∧ m5 ≤ 1000) := ⟨hs5, ho5, hp5, hpt5, hb5, (by rw [ho5.row.hlen]; exact Nat.le_trans (HSz.out.1.add HSz.out.2).1 (by decide)), (by rw [hp5.row.hlen]; exact Nat.le_trans (HSz.out.1.add HSz.out.2).2 (by decide))⟩; clear hs5 ho5 hp5 hpt5)
                      go_meet
                      exact ⟨_, rfl, rfl, ans_new HA5.out.2.2.2.2.1 HA5.out.1 HA5.out.2.1 HA5.out.2.2.1 HA5.out.2.2.2.1 HA5.out.2.2.2.2.2.1 HA5.out.2.2.2.2.2.2⟩
                    case rest => as_aux_lemma =>
                      obtain ⟨r, rfl, rfl, hans⟩ := hcut
                      obtain ⟨XAdd, hXAdd⟩ : ∃ Z0, Z0 = wc := ⟨_, rfl⟩
                      subst hXAdd
                      have hrK : ZZ.heap.size ≤ r := (by obtain ⟨B, n, o, l, c, p, m, k, q1, q2, q3, q4, q5⟩ := hans; exact q4)
                      have HNAdd : Hid (AnsRAt ZZ XAdd r (va + vb)) := hans
                      clear hans
                      go_upto_region 21 with fail
                      go_cut [68] (fun s9 wx => s9 = .bool false ∧ Slot3 wx r ∧ Below ZZ.heap.size ZZ wx)
                      case first => as_aux_lemma =>
                        -- region 21
                        obtain ⟨B, n7, o7, l7, c7, p7, m7, k7, q1, q2, q3, q4, q5⟩ := HNAdd.out
                        obtain ⟨gx0, gx1, gx2⟩ := q1.box
                        obtain ⟨n8, o8, l8, c8, p8, m8, k8, ⟨g80, g81, g82⟩, hi8, hf8⟩ := (HZZ.out.later q5).v0
                        have HQ : Hid (AnsR B XAdd r n7 o7 l7 c7 p7 m7 k7 (va + vb) ∧ ZZ.heap.size ≤ B ∧ B ≤ XAdd.heap.size ∧ Below ZZ.heap.size ZZ XAdd ∧ RatAt XAdd n8 o8 l8 c8 p8 m8 k8 (va + vb)) := ⟨q1, q2, q3, q5, hi8 _ rfl⟩
                        clear q1 q2 q3 q4 q5 hi8 hf8
                        go_wp2_with (go_at_call 18; refine (is2_good B n7 n8 o7 p7 o8 p8 l7 c7 m7 k7 l8 c8 m8 k8 (va + vb) _ HQ.out.1.sg HQ.out.1.own HQ.out.1.own2 HQ.out.1.pt HQ.out.2.2.1 HQ.out.2.2.2.2 (Nat.le_trans HQ.out.1.len (by decide)) (Nat.le_trans HQ.out.1.len2 (by decide))).mono ?_; rintro e y6 ⟨rfl, hb6, hsy, hz6⟩; have HA6 : Hid (Stay2 o7 p7 XAdd y6) := hsy; have HA7 : Hid (Below ZZ.heap.size ZZ y6) := HQ.out.2.2.2.1.trans (hb6.mono HQ.out.2.1); clear hb6 hsy hz6)
                        go_meet
                        exact ⟨rfl, HQ.out.1.slot.stay HA6.out HQ.out.1.off HQ.out.1.off2, HA7.out⟩
                      case rest => as_aux_lemma =>
                        obtain ⟨rfl, hsl, hbZ⟩ := hcut
                        obtain ⟨YSub, hYSub⟩ : ∃ Z0, Z0 = wc := ⟨_, rfl⟩
                        subst hYSub
                        have HBSub : Hid (Slot3 YSub r ∧ Below ZZ.heap.size ZZ YSub) := ⟨hsl, hbZ⟩
                        clear hsl hbZ HNAdd
                        go_upto_region 23 with fail
                        go_cut [14] (fun s16 wx => s16 = .int .i64 0 ∧ AnsRAt ZZ wx r (va - vb))
                        case first => as_aux_lemma =>
                          -- region 23
                          obtain ⟨ga0, ga1, ga2⟩ := (HZZ.out.later HBSub.out.2).ba
                          obtain ⟨gb0, gb1, gb2⟩ := (HZZ.out.later HBSub.out.2).bb
                          go_wp2_with (go_at_call 19; refine (sub_rat na nb a1 a2 b1 b2 la c1 lp e1 lb d1 lq f1 va vb _ ⟨⟨HSG.out.1, (HZZ.out.later HBSub.out.2).ra⟩, (HZZ.out.later HBSub.out.2).rd⟩ ⟨⟨HSG.out.2, (HZZ.out.later HBSub.out.2).rb⟩, (HZZ.out.later HBSub.out.2).rf⟩ (HSz.out.1.mono (by decide)) (HSz.out.2.mono (by decide)) (tab_later HT.out.1 (HZZ.out.later HBSub.out.2).bw)).mono ?_; rintro e y5 ⟨n5, o5, l5, c5, p5, m5, k5, rfl, hs5, ho5, hp5, hpt5, hb5⟩; have HA5 : Hid (n5 = sgB (va - vb).num ∧ Own YSub.heap.size y5 .u64 66 o5 l5 c5 (mag (va - vb).num.natAbs) ∧ Own YSub.heap.size y5 .u64 66 p5 m5 k5 (mag (va - vb).den) ∧ Parted o5 p5 ∧ Below YSub.heap.size YSub y5 ∧ l5 ≤ 1000 ∧ m5 ≤ 1000) := ⟨hs5, ho5, hp5, hpt5, hb5, (by rw [ho5.row.hlen]; exact Nat.le_trans (HSz.out.1.sub HSz.out.2).1 (by decide)), (by rw [hp5.row.hlen]; exact Nat.le_trans (HSz.out.1.sub HSz.out.2).2 (by decide))⟩; obtain ⟨⟨n9, o9, l9, c9, p9, m9, k9, s0, s1, s2⟩, s3⟩ := HBSub.out.1.at hb5 HBSub.out.1.lt; clear hs5 ho5 hp5 hpt5)
                          go_meet
                          exact ⟨rfl, ans_put HBSub.out.1 hrK HBSub.out.2 HA5.out.2.2.2.2.1 HA5.out.1 HA5.out.2.1 HA5.out.2.2.1 HA5.out.2.2.2.1 HA5.out.2.2.2.2.2.1 HA5.out.2.2.2.2.2.2⟩
                        case rest => as_aux_lemma =>
                          obtain ⟨rfl, hans⟩ := hcut
                          obtain ⟨XSub, hXSub⟩ : ∃ Z0, Z0 = wc := ⟨_, rfl⟩
                          subst hXSub
                          clear HBSub
                          have HNSub : Hid (AnsRAt ZZ XSub r (va - vb)) := hans
                          clear hans
                          go_upto_region 24 with fail
                          go_cut [80] (fun s9 wx => s9 = .bool false ∧ Slot3 wx r ∧ Below ZZ.heap.size ZZ wx)
                          case first => as_aux_lemma =>
                            -- region 24
                            obtain ⟨B, n7, o7, l7, c7, p7, m7, k7, q1, q2, q3, q4, q5⟩ := HNSub.out
                            obtain ⟨gx0, gx1, gx2⟩ := q1.box
                            obtain ⟨n8, o8, l8, c8, p8, m8, k8, ⟨g80, g81, g82⟩, hi8, hf8⟩ := (HZZ.out.later q5).v1
                            have HQ : Hid (AnsR B XSub r n7 o7 l7 c7 p7 m7 k7 (va - vb) ∧ ZZ.heap.size ≤ B ∧ B ≤ XSub.heap.size ∧ Below ZZ.heap.size ZZ XSub ∧ RatAt XSub n8 o8 l8 c8 p8 m8 k8 (va - vb)) := ⟨q1, q2, q3, q5, hi8 _ rfl⟩
                            clear q1 q2 q3 q4 q5 hi8 hf8
                            go_wp2_with (go_at_call 18; refine (is2_good B n7 n8 o7 p7 o8 p8 l7 c7 m7 k7 l8 c8 m8 k8 (va - vb) _ HQ.out.1.sg HQ.out.1.own HQ.out.1.own2 HQ.out.1.pt HQ.out.2.2.1 HQ.out.2.2.2.2 (Nat.le_trans HQ.out.1.len (by decide)) (Nat.le_trans HQ.out.1.len2 (by decide))).mono ?_; rintro e y6 ⟨rfl, hb6, hsy, hz6⟩; have HA6 : Hid (Stay2 o7 p7 XSub y6) := hsy; have HA7 : Hid (Below ZZ.heap.size ZZ y6) := HQ.out.2.2.2.1.trans (hb6.mono HQ.out.2.1); clear hb6 hsy hz6)
                            go_meet
                            exact ⟨rfl, HQ.out.1.slot.stay HA6.out HQ.out.1.off HQ.out.1.off2, HA7.out⟩
                          case rest => as_aux_lemma =>
                            obtain ⟨rfl, hsl, hbZ⟩ := hcut
                            obtain ⟨YMul, hYMul⟩ : ∃ Z0, Z0 = wc := ⟨_, rfl⟩
                            subst hYMul
                            have HBMul : Hid (Slot3 YMul r ∧ Below ZZ.heap.size ZZ YMul) := ⟨hsl, hbZ⟩
                            clear hsl hbZ HNSub
                            go_upto_region 26 with fail
                            go_cut [14] (fun s16 wx => s16 = .int .i64 0 ∧ AnsRAt ZZ wx r (va * vb))
                            case first => as_aux_lemma =>
                              -- region 26
                              obtain ⟨ga0, ga1, ga2⟩ := (HZZ.out.later HBMul.out.2).ba
                              obtain ⟨gb0, gb1, gb2⟩ := (HZZ.out.later HBMul.out.2).bb
                              go_wp2_with (go_at_call 20; refine (mul_rat na nb a1 a2 b1 b2 la c1 lp e1 lb d1 lq f1 va vb _ ⟨⟨HSG.out.1, (HZZ.out.later HBMul.out.2).ra⟩, (HZZ.out.later HBMul.out.2).rd⟩ ⟨⟨HSG.out.2, (HZZ.out.later HBMul.out.2).rb⟩, (HZZ.out.later HBMul.out.2).rf⟩ (HSz.out.1.mono (by decide)) (HSz.out.2.mono (by decide)) (tab_later HT.out.1 (HZZ.out.later HBMul.out.2).bw)).mono ?_; rintro e y5 ⟨n5, o5, l5, c5, p5, m5, k5, rfl, hs5, ho5, hp5, hpt5, hb5⟩; have HA5 : Hid (n5 = sgB (va * vb).num ∧ Own YMul.heap.size y5 .u64 66 o5 l5 c5 (mag (va * vb).num.natAbs) ∧ Own YMul.heap.size y5 .u64 66 p5 m5 k5 (mag (va * vb).den) ∧ Parted o5 p5 ∧ Below YMul.heap.size YMul y5 ∧ l5 ≤ 1000 ∧ m5 ≤ 1000) := ⟨hs5, ho5, hp5, hpt5, hb5, (by rw [ho5.row.hlen]; exact Nat.le_trans (HSz.out.1.mul HSz.out.2).1 (by decide)), (by rw [hp5.row.hlen]; exact Nat.le_trans (HSz.out.1.mul HSz.out.2).2 (by decide))⟩; obtain ⟨⟨n9, o9, l9, c9, p9, m9, k9, s0, s1, s2⟩, s3⟩ := HBMul.out.1.at hb5 HBMul.out.1.lt; clear hs5 ho5 hp5 hpt5)
                              go_meet
                              exact ⟨rfl, ans_put HBMul.out.1 hrK HBMul.out.2 HA5.out.2.2.2.2.1 HA5.out.1 HA5.out.2.1 HA5.out.2.2.1 HA5.out.2.2.2.1 HA5.out.2.2.2.2.2.1 HA5.out.2.2.2.2.2.2⟩
                            case rest => as_aux_lemma =>
                              obtain ⟨rfl, hans⟩ := hcut
                              obtain ⟨XMul, hXMul⟩ : ∃ Z0, Z0 = wc := ⟨_, rfl⟩
                              subst hXMul
                              clear HBMul
                              have HNMul : Hid (AnsRAt ZZ XMul r (va * vb)) := hans
                              clear hans
                              go_upto_region 27 with fail
                              go_cut [92] (fun s9 wx => s9 = .bool false ∧ Slot3 wx r ∧ Below ZZ.heap.size ZZ wx)
                              case first => as_aux_lemma =>
                                -- region 27
                                obtain ⟨B, n7, o7, l7, c7, p7, m7, k7, q1, q2, q3, q4, q5⟩ := HNMul.out
                                obtain ⟨gx0, gx1, gx2⟩ := q1.box
                                obtain ⟨n8, o8, l8, c8, p8, m8, k8, ⟨g80, g81, g82⟩, hi8, hf8⟩ := (HZZ.out.later q5).v2
                                have HQ : Hid (AnsR B XMul r n7 o7 l7 c7 p7 m7 k7 (va * vb) ∧ ZZ.heap.size ≤ B ∧ B ≤ XMul.heap.size ∧ Below ZZ.heap.size ZZ XMul ∧ RatAt XMul n8 o8 l8 c8 p8 m8 k8 (va * vb)) := ⟨q1, q2, q3, q5, hi8 _ rfl⟩
                                clear q1 q2 q3 q4 q5 hi8 hf8
                                go_wp2_with (go_at_call 18; refine (is2_good B n7 n8 o7 p7 o8 p8 l7 c7 m7 k7 l8 c8 m8 k8 (va * vb) _ HQ.out.1.sg HQ.out.1.own HQ.out.1.own2 HQ.out.1.pt HQ.out.2.2.1 HQ.out.2.2.2.2 (Nat.le_trans HQ.out.1.len (by decide)) (Nat.le_trans HQ.out.1.len2 (by decide))).mono ?_; rintro e y6 ⟨rfl, hb6, hsy, hz6⟩; have HA6 : Hid (Stay2 o7 p7 XMul y6) := hsy; have HA7 : Hid (Below ZZ.heap.size ZZ y6) := HQ.out.2.2.2.1.trans (hb6.mono HQ.out.2.1); clear hb6 hsy hz6)
                                go_meet
                                exact ⟨rfl, HQ.out.1.slot.stay HA6.out HQ.out.1.off HQ.out.1.off2, HA7.out⟩
                              case rest => as_aux_lemma =>
                                obtain ⟨rfl, hsl, hbZ⟩ := hcut
                                obtain ⟨YDiv, hYDiv⟩ : ∃ Z0, Z0 = wc := ⟨_, rfl⟩
                                subst hYDiv
                                have HBDiv : Hid (Slot3 YDiv r ∧ Below ZZ.heap.size ZZ YDiv) := ⟨hsl, hbZ⟩
                                clear hsl hbZ HNMul
                                go_upto_region 29 with fail
                                go_cut [14] (fun s16 wx => s16 = .int .i64 21 ∧ NilRAt ZZ wx r)
                                case first => as_aux_lemma =>
                                  -- region 29
                                  obtain ⟨ga0, ga1, ga2⟩ := (HZZ.out.later HBDiv.out.2).ba
                                  obtain ⟨gb0, gb1, gb2⟩ := (HZZ.out.later HBDiv.out.2).bb
                                  go_wp2_with (go_at_call 21; refine (rdiv_zero na nb a1 a2 b1 b2 la c1 lp e1 lb d1 lq f1 va vb _ ⟨⟨HSG.out.1, (HZZ.out.later HBDiv.out.2).ra⟩, (HZZ.out.later HBDiv.out.2).rd⟩ ⟨⟨HSG.out.2, (HZZ.out.later HBDiv.out.2).rb⟩, (HZZ.out.later HBDiv.out.2).rf⟩ (by omega) (by omega) (by omega) HLZ.out (tab_later HT.out.1 (HZZ.out.later HBDiv.out.2).bw)).mono ?_; rintro e y5 ⟨rfl, hb5⟩; have HA5 : Hid (Below YDiv.heap.size YDiv y5) := hb5; obtain ⟨⟨n9, o9, l9, c9, p9, m9, k9, s0, s1, s2⟩, s3⟩ := HBDiv.out.1.at hb5 HBDiv.out.1.lt)
                                  go_meet
                                  exact ⟨rfl, nil_put HBDiv.out.1 hrK HBDiv.out.2 HA5.out⟩
                                case rest => as_aux_lemma =>
                                  obtain ⟨rfl, hans⟩ := hcut
                                  obtain ⟨XDiv, hXDiv⟩ : ∃ Z0, Z0 = wc := ⟨_, rfl⟩
                                  subst hXDiv
                                  clear HBDiv
                                  have HNDiv : Hid (NilRAt ZZ XDiv r) := hans
                                  clear hans
                                  go_upto_region 30 with fail
                                  -- region 30
                                  obtain ⟨gx0, gx1, gx2⟩ := HNDiv.out.1
                                  obtain ⟨n8, o8, l8, c8, p8, m8, k8, ⟨g80, g81, g82⟩, hi8, hf8⟩ := (HZZ.out.later HNDiv.out.2.2.2).v3
                                  clear hi8 hf8
                                  go_wp2_with (first
                                    | (go_at_call 22; have _t := HA8; refine (eqraw_same nb b1 b2 bo qo lb d1 lq f1 lb cb lq cq (mag vb.num.natAbs) (mag vb.den) _ (HZZ.out.later HA8.out).rb (HZZ.out.later HA8.out).rf (HZZ.out.later HA8.out).jb (HZZ.out.later HA8.out).jf (by omega) (by omega)).mono ?_; rintro e y9 ⟨rfl, hb9⟩; have HA9 : Hid (Below ZZ.heap.size ZZ y9) := HA8.out.trans (hb9.mono HA8.out.size); clear hb9)
                                    | (go_at_call 22; refine (eqraw_same na a1 a2 ao po la c1 lp e1 la ca lp cp (mag va.num.natAbs) (mag va.den) _ (HZZ.out.later HA7.out).ra (HZZ.out.later HA7.out).rd (HZZ.out.later HA7.out).ja (HZZ.out.later HA7.out).jd (by omega) (by omega)).mono ?_; rintro e y8 ⟨rfl, hb8⟩; have HA8 : Hid (Below ZZ.heap.size ZZ y8) := HA7.out.trans (hb8.mono HA7.out.size); clear hb8; obtain ⟨ub0, ub1, ub2⟩ := (HZZ.out.later HA8.out).bb; obtain ⟨f0, f1', f2, f3, f4, f5, f6⟩ := (HZZ.out.later HA8.out).p)
                                    | (go_at_call 18; refine (is2_bad n8 o8 p8 l8 c8 m8 k8 21 _ (by decide)).mono ?_; rintro e y6 ⟨rfl, hb6⟩; have HA6 : Hid (Below XDiv.heap.size XDiv y6) := hb6; have HA7 : Hid (Below ZZ.heap.size ZZ y6) := HNDiv.out.2.2.2.trans (hb6.mono HNDiv.out.2.2.2.size); clear hb6; obtain ⟨ua0, ua1, ua2⟩ := (HZZ.out.later HA7.out).ba; obtain ⟨e0, e1', e2, e3, e4, e5, e6⟩ := (HZZ.out.later HA7.out).p))
                                  go_roundw
                                  case rel => exact ⟨k + 1, by omega, by omega, by go_num, HZZ.out.bw.trans (HA9.out.mono HZZ.out.bw.size)⟩
                                  case measure => simp [intOf]; omega
                  · as_aux_lemma =>
                    have hlb0 : ((lb : Int) == 0) = false := (by simp; omega)
                    have HB0 : Hid (vb ≠ 0) := (fun e => hlz (by rw [HE3.out.rb.hlen, e]; exact len_zero))
                    clear hlz
                    obtain ⟨gb0, gb1, gb2⟩ := HE3.out.bb
                    go_upto_region 19 with (go_at_call 15; refine (qzero_any nb b1 b2 lb d1 lq f1 _ false hlb0).mono ?_; rintro e ZZ ⟨rfl, hb5⟩; have HZZ : Hid (ExR w ZZ wr.heap.size rA rB g na nb ao po bo qo a1 a2 b1 b2 la ca lp cp lb cb lq cq c1 e1 d1 f1 N (mag va.num.natAbs) (mag va.den) (mag vb.num.natAbs) (mag vb.den) (some (va + vb)) (some (va - vb)) (some (va * vb)) none) := HE3.out.later hb5; clear hb5 gb0 gb1 gb2)
                    clear HE3
                    go_cut [56] (fun s9 wx => ExR w wx wr.heap.size rA rB g na nb ao po bo qo a1 a2 b1 b2 la ca lp cp lb cb lq cq c1 e1 d1 f1 N (mag va.num.natAbs) (mag va.den) (mag vb.num.natAbs) (mag vb.den) (some (va + vb)) (some (va - vb)) (some (va * vb)) (some (va / vb)))
                    case first => as_aux_lemma =>
                      obtain ⟨ga0, ga1, ga2⟩ := HZZ.out.ba
                      obtain ⟨gb0, gb1, gb2⟩ := HZZ.out.bb
                      go_wp2_with (go_at_call 16; refine (qover_any na nb a1 a2 b1 b2 la c1 lp e1 lb d1 lq f1 va vb _ ⟨⟨HSG.out.1, HZZ.out.ra⟩, HZZ.out.rd⟩ ⟨⟨HSG.out.2, HZZ.out.rb⟩, HZZ.out.rf⟩ (HSz.out.1.mono (by decide)) (HSz.out.2.mono (by decide)) HB0.out).mono ?_; rintro e y5 ⟨n5, o5, l5, c5, p5, m5, k5, rfl, hi5, hb5⟩; have HA5 : Hid (RatAt y5 n5 o5 l5 c5 p5 m5 k5 (va / vb) ∧ Below ZZ.heap.size ZZ y5) := ⟨hi5, hb5⟩; obtain ⟨⟨n9, o9, l9, c9, p9, m9, k9, s0, s1, s2⟩, s3⟩ := (HZZ.out.v3.later hb5).slot; clear hi5)
                      go_meet
                      exact ExR.put3 HZZ.out HA5.out.2 HA5.out.1
                    case rest => as_aux_lemma =>
                      have HQQ : Hid (ExR w wc wr.heap.size rA rB g na nb ao po bo qo a1 a2 b1 b2 la ca lp cp lb cb lq cq c1 e1 d1 f1 N (mag va.num.natAbs) (mag va.den) (mag vb.num.natAbs) (mag vb.den) (some (va + vb)) (some (va - vb)) (some (va * vb)) (some (va / vb))) := hcut
                      clear hcut HZZ
                      obtain ⟨QQ, hZ⟩ : ∃ Z0, Z0 = wc := ⟨_, rfl⟩
                      rw [← hZ] at HQQ
                      rw [← hZ]
                      clear hZ
                      go_upto_region 20 with fail
                      go_cut [13, 14] (fun s15 s16 wx => ∃ r, s15 = .pointer (some ⟨r, 0, none⟩) ∧ s16 = .int .i64 0 ∧ AnsRAt QQ wx r (va + vb))
                      case first => as_aux_lemma =>
                        -- region 20
                        obtain ⟨ga0, ga1, ga2⟩ := (HQQ.out.later (Below.refl _ _)).ba
                        obtain ⟨gb0, gb1, gb2⟩ := (HQQ.out.later (Below.refl _ _)).bb
                        go_wp2_with (go_at_call 17; refine (add_rat na nb a1 a2 b1 b2 la c1 lp e1 lb d1 lq f1 va vb _ ⟨⟨HSG.out.1, (HQQ.out.later (Below.refl _ _)).ra⟩, (HQQ.out.later (Below.refl _ _)).rd⟩ ⟨⟨HSG.out.2, (HQQ.out.later (Below.refl _ _)).rb⟩, (HQQ.out.later (Below.refl _ _)).rf⟩ (HSz.out.1.mono (by decide)) (HSz.out.2.mono (by decide)) (tab_later HT.out.1 (HQQ.out.later (Below.refl _ _)).bw)).mono ?_; rintro e y5 ⟨n5, o5, l5, c5, p5, m5, k5, rfl, hs5, ho5, hp5, hpt5, hb5⟩; have HA5 : Hid (n5 = sgB (va + vb).num ∧ Own QQ.heap.size y5 .u64 66 o5 l5 c5 (mag (va + vb).num.natAbs) ∧ Own QQ.heap.size y5 .u64 66 p5 m5 k5 (mag (va + vb).den) ∧ Parted o5 p5 ∧ Below QQ.heap.size QQ y5 ∧ l5 ≤ 1000 ∧ m5 ≤ 1000) := ⟨hs5, ho5, hp5, hpt5, hb5, (by rw [ho5.row.hlen]; exact Nat.le_trans (HSz.out.1.add HSz.out.2).1 (by decide)), (by rw [hp5.row.hlen]; exact Nat.le_trans (HSz.out.1.add HSz.out.2).2 (by decide))⟩; clear hs5 ho5 hp5 hpt5)
                        go_meet
                        exact ⟨_, rfl, rfl, ans_new HA5.out.2.2.2.2.1 HA5.out.1 HA5.out.2.1 HA5.out.2.2.1 HA5.out.2.2.2.1 HA5.out.2.2.2.2.2.1 HA5.out.2.2.2.2.2.2⟩
                      case rest => as_aux_lemma =>
                        obtain ⟨r, rfl, rfl, hans⟩ := hcut
                        obtain ⟨XAdd, hXAdd⟩ : ∃ Z0, Z0 = wc := ⟨_, rfl⟩
                        subst hXAdd
                        have hrK : QQ.heap.size ≤ r := (by obtain ⟨B, n, o, l, c, p, m, k, q1, q2, q3, q4, q5⟩ := hans; exact q4)
                        have HNAdd : Hid (AnsRAt QQ XAdd r (va + vb)) := hans
                        clear hans
                        go_upto_region 21 with fail
                        go_cut [68] (fun s9 wx => s9 = .bool false ∧ Slot3 wx r ∧ Below QQ.heap.size QQ wx)
                        case first => as_aux_lemma =>
                          -- region 21
                          obtain ⟨B, n7, o7, l7, c7, p7, m7, k7, q1, q2, q3, q4, q5⟩ := HNAdd.out
                          obtain ⟨gx0, gx1, gx2⟩ := q1.box
                          obtain ⟨n8, o8, l8, c8, p8, m8, k8, ⟨g80, g81, g82⟩, hi8, hf8⟩ := (HQQ.out.later q5).v0
                          have HQ : Hid (AnsR B XAdd r n7 o7 l7 c7 p7 m7 k7 (va + vb) ∧ QQ.heap.size ≤ B ∧ B ≤ XAdd.heap.size ∧ Below QQ.heap.size QQ XAdd ∧ RatAt XAdd n8 o8 l8 c8 p8 m8 k8 (va + vb)) := ⟨q1, q2, q3, q5, hi8 _ rfl⟩
                          clear q1 q2 q3 q4 q5 hi8 hf8
                          go_wp2_with (go_at_call 18; refine (is2_good B n7 n8 o7 p7 o8 p8 l7 c7 m7 k7 l8 c8 m8 k8 (va + vb) _ HQ.out.1.sg HQ.out.1.own HQ.out.1.own2 HQ.out.1.pt HQ.out.2.2.1 HQ.out.2.2.2.2 (Nat.le_trans HQ.out.1.len (by decide)) (Nat.le_trans HQ.out.1.len2 (by decide))).mono ?_; rintro e y6 ⟨rfl, hb6, hsy, hz6⟩; have HA6 : Hid (Stay2 o7 p7 XAdd y6) := hsy; have HA7 : Hid (Below QQ.heap.size QQ y6) := HQ.out.2.2.2.1.trans (hb6.mono HQ.out.2.1); clear hb6 hsy hz6)
                          go_meet
                          exact ⟨rfl, HQ.out.1.slot.stay HA6.out HQ.out.1.off HQ.out.1.off2, HA7.out⟩
                        case rest => as_aux_lemma =>
                          obtain ⟨rfl, hsl, hbZ⟩ := hcut
                          obtain ⟨YSub, hYSub⟩ : ∃ Z0, Z0 = wc := ⟨_, rfl⟩
                          subst hYSub
                          have HBSub : Hid (Slot3 YSub r ∧ Below QQ.heap.size QQ YSub) := ⟨hsl, hbZ⟩
                          clear hsl hbZ HNAdd
                          go_upto_region 23 with fail
                          go_cut [14] (fun s16 wx => s16 = .int .i64 0 ∧ AnsRAt QQ wx r (va - vb))
                          case first => as_aux_lemma =>
                            -- region 23
                            obtain ⟨ga0, ga1, ga2⟩ := (HQQ.out.later HBSub.out.2).ba
                            obtain ⟨gb0, gb1, gb2⟩ := (HQQ.out.later HBSub.out.2).bb
                            go_wp2_with (go_at_call 19; refine (sub_rat na nb a1 a2 b1 b2 la c1 lp e1 lb d1 lq f1 va vb _ ⟨⟨HSG.out.1, (HQQ.out.later HBSub.out.2).ra⟩, (HQQ.out.later HBSub.out.2).rd⟩ ⟨⟨HSG.out.2, (HQQ.out.later HBSub.out.2).rb⟩, (HQQ.out.later HBSub.out.2).rf⟩ (HSz.out.1.mono (by decide)) (HSz.out.2.mono (by decide)) (tab_later HT.out.1 (HQQ.out.later HBSub.out.2).bw)).mono ?_; rintro e y5 ⟨n5, o5, l5, c5, p5, m5, k5, rfl, hs5, ho5, hp5, hpt5, hb5⟩; have HA5 : Hid (n5 = sgB (va - vb).num ∧ Own YSub.heap.size y5 .u64 66 o5 l5 c5 (mag (va - vb).num.natAbs) ∧ Own YSub.heap.size y5 .u64 66 p5 m5 k5 (mag (va - vb).den) ∧ Parted o5 p5 ∧ Below YSub.heap.size YSub y5 ∧ l5 ≤ 1000 ∧ m5 ≤ 1000) := ⟨hs5, ho5, hp5, hpt5, hb5, (by rw [ho5.row.hlen]; exact Nat.le_trans (HSz.out.1.sub HSz.out.2).1 (by decide)), (by rw [hp5.row.hlen]; exact Nat.le_trans (HSz.out.1.sub HSz.out.2).2 (by decide))⟩; obtain ⟨⟨n9, o9, l9, c9, p9, m9, k9, s0, s1, s2⟩, s3⟩ := HBSub.out.1.at hb5 HBSub.out.1.lt; clear hs5 ho5 hp5 hpt5)
                            go_meet
                            exact ⟨rfl, ans_put HBSub.out.1 hrK HBSub.out.2 HA5.out.2.2.2.2.1 HA5.out.1 HA5.out.2.1 HA5.out.2.2.1 HA5.out.2.2.2.1 HA5.out.2.2.2.2.2.1 HA5.out.2.2.2.2.2.2⟩
                          case rest => as_aux_lemma =>
                            obtain ⟨rfl, hans⟩ := hcut
                            obtain ⟨XSub, hXSub⟩ : ∃ Z0, Z0 = wc := ⟨_, rfl⟩
                            subst hXSub
                            clear HBSub
                            have HNSub : Hid (AnsRAt QQ XSub r (va - vb)) := hans
                            clear hans
                            go_upto_region 24 with fail
                            go_cut [80] (fun s9 wx => s9 = .bool false ∧ Slot3 wx r ∧ Below QQ.heap.size QQ wx)
                            case first => as_aux_lemma =>
                              -- region 24
                              obtain ⟨B, n7, o7, l7, c7, p7, m7, k7, q1, q2, q3, q4, q5⟩ := HNSub.out
                              obtain ⟨gx0, gx1, gx2⟩ := q1.box
                              obtain ⟨n8, o8, l8, c8, p8, m8, k8, ⟨g80, g81, g82⟩, hi8, hf8⟩ := (HQQ.out.later q5).v1
                              have HQ : Hid (AnsR B XSub r n7 o7 l7 c7 p7 m7 k7 (va - vb) ∧ QQ.heap.size ≤ B ∧ B ≤ XSub.heap.size ∧ Below QQ.heap.size QQ XSub ∧ RatAt XSub n8 o8 l8 c8 p8 m8 k8 (va - vb)) := ⟨q1, q2, q3, q5, hi8 _ rfl⟩
                              clear q1 q2 q3 q4 q5 hi8 hf8
                              go_wp2_with (go_at_call 18; refine (is2_good B n7 n8 o7 p7 o8 p8 l7 c7 m7 k7 l8 c8 m8 k8 (va - vb) _ HQ.out.1.sg HQ.out.1.own HQ.out.1.own2 HQ.out.1.pt HQ.out.2.2.1 HQ.out.2.2.2.2 (Nat.le_trans HQ.out.1.len (by decide)) (Nat.le_trans HQ.out.1.len2 (by decide))).mono ?_; rintro e y6 ⟨rfl, hb6, hsy, hz6⟩; have HA6 : Hid (Stay2 o7 p7 XSub y6) := hsy; have HA7 : Hid (Below QQ.heap.size QQ y6) := HQ.out.2.2.2.1.trans (hb6.mono HQ.out.2.1); clear hb6 hsy hz6)
                              go_meet
                              exact ⟨rfl, HQ.out.1.slot.stay HA6.out HQ.out.1.off HQ.out.1.off2, HA7.out⟩
                            case rest => as_aux_lemma =>
                              obtain ⟨rfl, hsl, hbZ⟩ := hcut
                              obtain ⟨YMul, hYMul⟩ : ∃ Z0, Z0 = wc := ⟨_, rfl⟩
                              subst hYMul
                              have HBMul : Hid (Slot3 YMul r ∧ Below QQ.heap.size QQ YMul) := ⟨hsl, hbZ⟩
                              clear hsl hbZ HNSub
                              go_upto_region 26 with fail
                              go_cut [14] (fun s16 wx => s16 = .int .i64 0 ∧ AnsRAt QQ wx r (va * vb))
                              case first => as_aux_lemma =>
                                -- region 26
                                obtain ⟨ga0, ga1, ga2⟩ := (HQQ.out.later HBMul.out.2).ba
                                obtain ⟨gb0, gb1, gb2⟩ := (HQQ.out.later HBMul.out.2).bb
                                go_wp2_with (go_at_call 20; refine (mul_rat na nb a1 a2 b1 b2 la c1 lp e1 lb d1 lq f1 va vb _ ⟨⟨HSG.out.1, (HQQ.out.later HBMul.out.2).ra⟩, (HQQ.out.later HBMul.out.2).rd⟩ ⟨⟨HSG.out.2, (HQQ.out.later HBMul.out.2).rb⟩, (HQQ.out.later HBMul.out.2).rf⟩ (HSz.out.1.mono (by decide)) (HSz.out.2.mono (by decide)) (tab_later HT.out.1 (HQQ.out.later HBMul.out.2).bw)).mono ?_; rintro e y5 ⟨n5, o5, l5, c5, p5, m5, k5, rfl, hs5, ho5, hp5, hpt5, hb5⟩; have HA5 : Hid (n5 = sgB (va * vb).num ∧ Own YMul.heap.size y5 .u64 66 o5 l5 c5 (mag (va * vb).num.natAbs) ∧ Own YMul.heap.size y5 .u64 66 p5 m5 k5 (mag (va * vb).den) ∧ Parted o5 p5 ∧ Below YMul.heap.size YMul y5 ∧ l5 ≤ 1000 ∧ m5 ≤ 1000) := ⟨hs5, ho5, hp5, hpt5, hb5, (by rw [ho5.row.hlen]; exact Nat.le_trans (HSz.out.1.mul HSz.out.2).1 (by decide)), (by rw [hp5.row.hlen]; exact Nat.le_trans (HSz.out.1.mul HSz.out.2).2 (by decide))⟩; obtain ⟨⟨n9, o9, l9, c9, p9, m9, k9, s0, s1, s2⟩, s3⟩ := HBMul.out.1.at hb5 HBMul.out.1.lt; clear hs5 ho5 hp5 hpt5)
                                go_meet
                                exact ⟨rfl, ans_put HBMul.out.1 hrK HBMul.out.2 HA5.out.2.2.2.2.1 HA5.out.1 HA5.out.2.1 HA5.out.2.2.1 HA5.out.2.2.2.1 HA5.out.2.2.2.2.2.1 HA5.out.2.2.2.2.2.2⟩
                              case rest => as_aux_lemma =>
                                obtain ⟨rfl, hans⟩ := hcut
                                obtain ⟨XMul, hXMul⟩ : ∃ Z0, Z0 = wc := ⟨_, rfl⟩
                                subst hXMul
                                clear HBMul
                                have HNMul : Hid (AnsRAt QQ XMul r (va * vb)) := hans
                                clear hans
                                go_upto_region 27 with fail
                                go_cut [92] (fun s9 wx => s9 = .bool false ∧ Slot3 wx r ∧ Below QQ.heap.size QQ wx)
                                case first => as_aux_lemma =>
                                  -- region 27
                                  obtain ⟨B, n7, o7, l7, c7, p7, m7, k7, q1, q2, q3, q4, q5⟩ := HNMul.out
                                  obtain ⟨gx0, gx1, gx2⟩ := q1.box
                                  obtain ⟨n8, o8, l8, c8, p8, m8, k8, ⟨g80, g81, g82⟩, hi8, hf8⟩ := (HQQ.out.later q5).v2
                                  have HQ : Hid (AnsR B XMul r n7 o7 l7 c7 p7 m7 k7 (va * vb) ∧ QQ.heap.size ≤ B ∧ B ≤ XMul.heap.size ∧ Below QQ.heap.size QQ XMul ∧ RatAt XMul n8 o8 l8 c8 p8 m8 k8 (va * vb)) := ⟨q1, q2, q3, q5, hi8 _ rfl⟩
                                  clear q1 q2 q3 q4 q5 hi8 hf8
                                  go_wp2_with (go_at_call 18; refine (is2_good B n7 n8 o7 p7 o8 p8 l7 c7 m7 k7 l8 c8 m8 k8 (va * vb) _ HQ.out.1.sg HQ.out.1.own HQ.out.1.own2 HQ.out.1.pt HQ.out.2.2.1 HQ.out.2.2.2.2 (Nat.le_trans HQ.out.1.len (by decide)) (Nat.le_trans HQ.out.1.len2 (by decide))).mono ?_; rintro e y6 ⟨rfl, hb6, hsy, hz6⟩; have HA6 : Hid (Stay2 o7 p7 XMul y6) := hsy; have HA7 : Hid (Below QQ.heap.size QQ y6) := HQ.out.2.2.2.1.trans (hb6.mono HQ.out.2.1); clear hb6 hsy hz6)
                                  go_meet
                                  exact ⟨rfl, HQ.out.1.slot.stay HA6.out HQ.out.1.off HQ.out.1.off2, HA7.out⟩
                                case rest => as_aux_lemma =>
                                  obtain ⟨rfl, hsl, hbZ⟩ := hcut
                                  obtain ⟨YDiv, hYDiv⟩ : ∃ Z0, Z0 = wc := ⟨_, rfl⟩
                                  subst hYDiv
                                  have HBDiv : Hid (Slot3 YDiv r ∧ Below QQ.heap.size QQ YDiv) := ⟨hsl, hbZ⟩
                                  clear hsl hbZ HNMul
                                  go_upto_region 29 with fail
                                  go_cut [14] (fun s16 wx => s16 = .int .i64 0 ∧ AnsRAt QQ wx r (va / vb))
                                  case first => as_aux_lemma =>
                                    -- region 29
                                    obtain ⟨ga0, ga1, ga2⟩ := (HQQ.out.later HBDiv.out.2).ba
                                    obtain ⟨gb0, gb1, gb2⟩ := (HQQ.out.later HBDiv.out.2).bb
                                    go_wp2_with (go_at_call 21; refine (div_rat na nb a1 a2 b1 b2 la c1 lp e1 lb d1 lq f1 va vb _ ⟨⟨HSG.out.1, (HQQ.out.later HBDiv.out.2).ra⟩, (HQQ.out.later HBDiv.out.2).rd⟩ ⟨⟨HSG.out.2, (HQQ.out.later HBDiv.out.2).rb⟩, (HQQ.out.later HBDiv.out.2).rf⟩ (HSz.out.1.mono (by decide)) (HSz.out.2.mono (by decide)) HB0.out (tab_later HT.out.1 (HQQ.out.later HBDiv.out.2).bw)).mono ?_; rintro e y5 ⟨n5, o5, l5, c5, p5, m5, k5, rfl, hs5, ho5, hp5, hpt5, hb5⟩; have HA5 : Hid (n5 = sgB (va / vb).num ∧ Own YDiv.heap.size y5 .u64 66 o5 l5 c5 (mag (va / vb).num.natAbs) ∧ Own YDiv.heap.size y5 .u64 66 p5 m5 k5 (mag (va / vb).den) ∧ Parted o5 p5 ∧ Below YDiv.heap.size YDiv y5 ∧ l5 ≤ 1000 ∧ m5 ≤ 1000) := ⟨hs5, ho5, hp5, hpt5, hb5, (by rw [ho5.row.hlen]; exact Nat.le_trans (HSz.out.1.div HSz.out.2 HB0.out).1 (by decide)), (by rw [hp5.row.hlen]; exact Nat.le_trans (HSz.out.1.div HSz.out.2 HB0.out).2 (by decide))⟩; obtain ⟨⟨n9, o9, l9, c9, p9, m9, k9, s0, s1, s2⟩, s3⟩ := HBDiv.out.1.at hb5 HBDiv.out.1.lt; clear hs5 ho5 hp5 hpt5)
                                    go_meet
                                    exact ⟨rfl, ans_put HBDiv.out.1 hrK HBDiv.out.2 HA5.out.2.2.2.2.1 HA5.out.1 HA5.out.2.1 HA5.out.2.2.1 HA5.out.2.2.2.1 HA5.out.2.2.2.2.2.1 HA5.out.2.2.2.2.2.2⟩
                                  case rest => as_aux_lemma =>
                                    obtain ⟨rfl, hans⟩ := hcut
                                    obtain ⟨XDiv, hXDiv⟩ : ∃ Z0, Z0 = wc := ⟨_, rfl⟩
                                    subst hXDiv
                                    clear HBDiv
                                    have HNDiv : Hid (AnsRAt QQ XDiv r (va / vb)) := hans
                                    clear hans
                                    go_upto_region 30 with fail
                                    -- region 30
                                    obtain ⟨B, n7, o7, l7, c7, p7, m7, k7, q1, q2, q3, q4, q5⟩ := HNDiv.out
                                    obtain ⟨gx0, gx1, gx2⟩ := q1.box
                                    obtain ⟨n8, o8, l8, c8, p8, m8, k8, ⟨g80, g81, g82⟩, hi8, hf8⟩ := (HQQ.out.later q5).v3
                                    have HQ : Hid (AnsR B XDiv r n7 o7 l7 c7 p7 m7 k7 (va / vb) ∧ QQ.heap.size ≤ B ∧ B ≤ XDiv.heap.size ∧ Below QQ.heap.size QQ XDiv ∧ RatAt XDiv n8 o8 l8 c8 p8 m8 k8 (va / vb)) := ⟨q1, q2, q3, q5, hi8 _ rfl⟩
                                    clear q1 q2 q3 q4 q5 hi8 hf8
                                    go_wp2_with (first
                                      | (go_at_call 22; have _t := HA8; refine (eqraw_same nb b1 b2 bo qo lb d1 lq f1 lb cb lq cq (mag vb.num.natAbs) (mag vb.den) _ (HQQ.out.later HA8.out).rb (HQQ.out.later HA8.out).rf (HQQ.out.later HA8.out).jb (HQQ.out.later HA8.out).jf (by omega) (by omega)).mono ?_; rintro e y9 ⟨rfl, hb9⟩; have HA9 : Hid (Below QQ.heap.size QQ y9) := HA8.out.trans (hb9.mono HA8.out.size); clear hb9)
                                      | (go_at_call 22; refine (eqraw_same na a1 a2 ao po la c1 lp e1 la ca lp cp (mag va.num.natAbs) (mag va.den) _ (HQQ.out.later HA7.out).ra (HQQ.out.later HA7.out).rd (HQQ.out.later HA7.out).ja (HQQ.out.later HA7.out).jd (by omega) (by omega)).mono ?_; rintro e y8 ⟨rfl, hb8⟩; have HA8 : Hid (Below QQ.heap.size QQ y8) := HA7.out.trans (hb8.mono HA7.out.size); clear hb8; obtain ⟨ub0, ub1, ub2⟩ := (HQQ.out.later HA8.out).bb; obtain ⟨f0, f1', f2, f3, f4, f5, f6⟩ := (HQQ.out.later HA8.out).p)
                                      | (go_at_call 18; refine (is2_good B n7 n8 o7 p7 o8 p8 l7 c7 m7 k7 l8 c8 m8 k8 (va / vb) _ HQ.out.1.sg HQ.out.1.own HQ.out.1.own2 HQ.out.1.pt HQ.out.2.2.1 HQ.out.2.2.2.2 (Nat.le_trans HQ.out.1.len (by decide)) (Nat.le_trans HQ.out.1.len2 (by decide))).mono ?_; rintro e y6 ⟨rfl, hb6, hsy, hz6⟩; have HA6 : Hid (Stay2 o7 p7 XDiv y6) := hsy; have HA7 : Hid (Below QQ.heap.size QQ y6) := HQ.out.2.2.2.1.trans (hb6.mono HQ.out.2.1); clear hb6 hsy hz6; obtain ⟨ua0, ua1, ua2⟩ := (HQQ.out.later HA7.out).ba; obtain ⟨e0, e1', e2, e3, e4, e5, e6⟩ := (HQQ.out.later HA7.out).p))
                                    go_roundw
                                    case rel => exact ⟨k + 1, by omega, by omega, by go_num, HQQ.out.bw.trans (HA9.out.mono HQQ.out.bw.size)⟩
                                    case measure => simp [intOf]; omega
      · as_aux_lemma =>
        have HH : Hid (((decide ((8 : Int) < (la : Int)) || decide ((8 : Int) < (lp : Int))) || (decide ((8 : Int) < (lb : Int)) || decide ((8 : Int) < (lq : Int)))) = true) := hhv
        clear hhv
        go_wp2_with (go_at_call 9; rw [← hT.eq]; refine (heavyR_any na nb ao po bo qo la ca lp cp lb cb lq cq N _ true HH.out).mono ?_; rintro e w1 ⟨rfl, hb1⟩)
        go_ret
        exact ⟨rfl, bnext hbW hb1⟩
    · have hwk : ∀ X, Below w.heap.size w X → Calls Tryz.prog 23 #[] X fun e w' => e = .returned (.bool true) ∧ Below X.heap.size X w' := fun X h => wakes2_any X (tab_later HT.out.1 h) (HT.out.2.later h)
      have hend : ¬ k < len ∨ k = 30 := by omega
      clear hlt
      rcases hend with he | he
      · as_aux_lemma =>
        go_wp2_with (go_at_call 23; refine (hwk _ hbel).mono ?_; rintro e w9 ⟨rfl, hb9⟩)
        go_ret
        exact ⟨rfl, bnext hbel hb9⟩
      · subst he
        by_cases hq : 30 < len
        · as_aux_lemma =>
          go_wp2_with (go_at_call 23; refine (hwk _ hbel).mono ?_; rintro e w9 ⟨rfl, hb9⟩)
          go_ret
          exact ⟨rfl, bnext hbel hb9⟩
        · as_aux_lemma =>
          go_wp2_with (go_at_call 23; refine (hwk _ hbel).mono ?_; rintro e w9 ⟨rfl, hb9⟩)
          go_ret
          exact ⟨rfl, bnext hbel hb9⟩
end Go.Proofs.YtljmbnbilmghhaaGreatDoor
