/-
  A pack of walks and facts: QE.
-/
import Derived.Test.YthjkdnlbdhhmbaaGreatDoorPV34
import Derived.Deep.DeepCutAuto
set_option maxRecDepth 100000
set_option maxHeartbeats 40000000
set_option linter.unusedVariables false
set_option linter.unusedSimpArgs false
namespace Go.Proofs.YthjkdnlbdhhmbaaGreatDoor
open Go.RowKit
theorem rat_short {w : World} {n : Bool} {o p : Option Addr} {l c m k : Nat} {a : Rat} (h : RatAt w n o l c p m k a) (hs : Sz a 1000) : l ≤ 1073741824 ∧ m ≤ 1073741824 := ⟨by have := (h.len hs).1; omega, by have := (h.len hs).2; omega⟩
theorem ev_sz0 {p : List Int} {x : Rat} (hp : Lim 3 p) (hl : p.length ≤ 11) (hx : Sz x 2) : Sz (evQ p x) 1000 := by
 have h := ev_drop_sz hp hl hx 0
 rw [List.drop_zero] at h
 exact h.mono (by decide)
theorem v_sz0 {p : List Int} {a b : Rat} (ha : Sz a 2) (hb : Sz b 2) (hp : Lim 3 p) (hl : p.length ≤ 11) : Sz (vLo p a b) 100000 ∧ Sz (vHi p a b) 100000 := by
 have h := v_sz2 ha hb hp hl 0
 rw [List.drop_zero] at h
 exact ⟨h.1.mono (by decide), h.2.mono (by decide)⟩
theorem polyValues_any (lo : Option Addr) (len cap : Nat) (w : World) (hE : Items6 w lo len) (hl : len ≤ 9223372036854775807) (hT : TabAt 0 Lib.deBruijn64tab w) :
  Calls Tryz.prog 3 #[.slice lo len cap] w fun e w' => e = .returned (.bool true) ∧ Below w.heap.size w w' := by
 have HE : Hid (Items6 w lo len ∧ TabAt 0 Lib.deBruijn64tab w) := ⟨hE, hT⟩
 clear hE hT
 go_enter Tryz.func3, Tryz.ntmps3
 go_wp2
 go_loopw [3] (fun i wr => ∃ k : Nat, k ≤ 15 ∧ i = .int .i64 (k : Int) ∧ Below w.heap.size w wr) (fun i _ => 15 - (intOf i).toNat)
 case atStart => exact ⟨0, Nat.zero_le _, rfl, Below.refl _ _⟩
 case round =>
  obtain ⟨wo, hwo⟩ : ∃ x, x = wr := ⟨_, rfl⟩
  subst hwo
  obtain ⟨k, hk, rfl, hbel⟩ := hrel
  have z0 : (0 : Int) ≤ (k : Int) := by omega
  by_cases hlt : k < len
  ·
   have g1 : (k : Int) < (len : Int) := by omega
   by_cases h15 : k < 15
   ·
    have g2 : (k : Int) < 15 := by omega
    obtain ⟨b, off, rfl, hblt, hit⟩ := HE.out.1 k hlt
    refine hit.elim ?_
    intro ao bo co la ca lb cb lc cc n n4 n5 n6 o4 p4 o5 p5 o6 p6 l4 c4 m4 k4 l5 c5 m5 k5 l6 c6 m6 k6 rs ts zs ds x5 d5 x6 d6 ⟨hcell, ⟨hp, hs, hca, hcb⟩, hz4, hw4, hd4, hv4, ⟨hz5, hw5, hd5, hv5⟩, hz6, hw6, hd6, hv6⟩
    have e0 : wo.cell? ⟨b, off + k * 13, none⟩ = some (.slice ao la ca) := (hbel.cell (p := ⟨b, off + k * 13, none⟩) hblt).trans (hcell 0 _ rfl)
    have e1 : wo.cell? ⟨b, off + k * 13 + 1, none⟩ = some (.slice bo lb cb) := (hbel.cell (p := ⟨b, off + k * 13 + 1, none⟩) hblt).trans (hcell 1 _ rfl)
    have e2 : wo.cell? ⟨b, off + k * 13 + 2, none⟩ = some (.bool n) := (hbel.cell (p := ⟨b, off + k * 13 + 2, none⟩) hblt).trans (hcell 2 _ rfl)
    have e3 : wo.cell? ⟨b, off + k * 13 + 3, none⟩ = some (.slice co lc cc) := (hbel.cell (p := ⟨b, off + k * 13 + 3, none⟩) hblt).trans (hcell 3 _ rfl)
    have e4 : wo.cell? ⟨b, off + k * 13 + 4, none⟩ = some (.bool n4) := (hbel.cell (p := ⟨b, off + k * 13 + 4, none⟩) hblt).trans (hcell 4 _ rfl)
    have e5 : wo.cell? ⟨b, off + k * 13 + 5, none⟩ = some (.slice o4 l4 c4) := (hbel.cell (p := ⟨b, off + k * 13 + 5, none⟩) hblt).trans (hcell 5 _ rfl)
    have e6 : wo.cell? ⟨b, off + k * 13 + 6, none⟩ = some (.slice p4 m4 k4) := (hbel.cell (p := ⟨b, off + k * 13 + 6, none⟩) hblt).trans (hcell 6 _ rfl)
    have e7 : wo.cell? ⟨b, off + k * 13 + 7, none⟩ = some (.bool n5) := (hbel.cell (p := ⟨b, off + k * 13 + 7, none⟩) hblt).trans (hcell 7 _ rfl)
    have e8 : wo.cell? ⟨b, off + k * 13 + 8, none⟩ = some (.slice o5 l5 c5) := (hbel.cell (p := ⟨b, off + k * 13 + 8, none⟩) hblt).trans (hcell 8 _ rfl)
    have e9 : wo.cell? ⟨b, off + k * 13 + 9, none⟩ = some (.slice p5 m5 k5) := (hbel.cell (p := ⟨b, off + k * 13 + 9, none⟩) hblt).trans (hcell 9 _ rfl)
    have e10 : wo.cell? ⟨b, off + k * 13 + 10, none⟩ = some (.bool n6) := (hbel.cell (p := ⟨b, off + k * 13 + 10, none⟩) hblt).trans (hcell 10 _ rfl)
    have e11 : wo.cell? ⟨b, off + k * 13 + 11, none⟩ = some (.slice o6 l6 c6) := (hbel.cell (p := ⟨b, off + k * 13 + 11, none⟩) hblt).trans (hcell 11 _ rfl)
    have e12 : wo.cell? ⟨b, off + k * 13 + 12, none⟩ = some (.slice p6 m6 k6) := (hbel.cell (p := ⟨b, off + k * 13 + 12, none⟩) hblt).trans (hcell 12 _ rfl)
    obtain ⟨X, hX⟩ : ∃ X, X = wo.alloc (.cells #[.slice ao la ca, .slice bo lb cb, .bool n, .slice co lc cc, .bool n4, .slice o4 l4 c4, .slice p4 m4 k4, .bool n5, .slice o5 l5 c5, .slice p5 m5 k5, .bool n6, .slice o6 l6 c6, .slice p6 m6 k6] 34) := ⟨_, rfl⟩
    have HXB : Hid (Below wo.heap.size wo X ∧ Below w.heap.size w X) := by rw [hX]; exact ⟨(Below.refl _ _).alloc (Nat.le_refl _) _, bnext hbel ((Below.refl _ _).alloc (Nat.le_refl _) _)⟩
    have HCL : Hid (∀ V, Below X.heap.size X V → Cells V wo.heap.size [.slice ao la ca, .slice bo lb cb, .bool n, .slice co lc cc, .bool n4, .slice o4 l4 c4, .slice p4 m4 k4, .bool n5, .slice o5 l5 c5, .slice p5 m5 k5, .bool n6, .slice o6 l6 c6, .slice p6 m6 k6]) := by
     rw [hX]
     exact fun V hb => (Cells.new wo #[.slice ao la ca, .slice bo lb cb, .bool n, .slice co lc cc, .bool n4, .slice o4 l4 c4, .slice p4 m4 k4, .bool n5, .slice o5 l5 c5, .slice p5 m5 k5, .bool n6, .slice o6 l6 c6, .slice p6 m6 k6] 34).later hb (by simp)
    have HP0 : Hid (RawsAt X ao la ca rs ∧ RawsAt X bo lb cb ts ∧ ((RowAt X .u64 o4 l4 c4 zs ∧ RowAt X .u64 p4 m4 k4 ds) ∧ RowAt X .u64 o5 l5 c5 x5 ∧ RowAt X .u64 p5 m5 k5 d5 ∧ RowAt X .u64 o6 l6 c6 x6 ∧ RowAt X .u64 p6 m6 k6 d6) ∧ TabAt 0 Lib.deBruijn64tab X) := ⟨hp.later HXB.out.2, hs.later HXB.out.2, ⟨⟨hz4.later HXB.out.2, hd4.later HXB.out.2⟩, hz5.later HXB.out.2, hd5.later HXB.out.2, hz6.later HXB.out.2, hd6.later HXB.out.2⟩, tab_later HE.out.2 HXB.out.2⟩
    have HW0 : Hid ((la ≤ 9223372036854775807 ∧ lb ≤ 9223372036854775807) ∧ (Wd 18446744073709551616 zs ∧ Wd 18446744073709551616 ds) ∧ Wd 18446744073709551616 x5 ∧ Wd 18446744073709551616 d5 ∧ Wd 18446744073709551616 x6 ∧ Wd 18446744073709551616 d6) := ⟨⟨Nat.le_trans hp.hcap hca, Nat.le_trans hs.hcap hcb⟩, ⟨hw4, hv4⟩, hw5, hv5, hw6, hv6⟩
    clear hcell hp hs hz4 hw4 hd4 hv4 hz5 hd5 hz6 hd6 hw5 hv5 hw6 hv6 hca hcb hit hblt
    go_upto_if 26 with (go_at_call 5; rw [← hX]; clear hX; refine (heavy6s_any ao bo co la ca lb cb lc cc n n4 n5 n6 o4 p4 o5 p5 o6 p6 l4 c4 m4 k4 l5 c5 m5 k5 l6 c6 m6 k6 rs ts _ HP0.out.1 HP0.out.2.1 HW0.out.1.1 HW0.out.1.2).mono ?_; rintro e Y ⟨hv, rfl, hcond, hBy⟩)
    clear e0 e1 e2 e3 e4 e5 e6 e7 e8 e9 e10 e11 e12
    cases hv
    rotate_left
    ·
     go_wp2
     go_ret
     exact ⟨rfl, bnext HXB.out.2 hBy⟩
    obtain ⟨hP, hQ, _, ⟨hl4, hm4⟩, ⟨hl5, hm5⟩, hl6, hm6⟩ := hcond rfl
    obtain ⟨hla, hlimP⟩ := heavyB_false hP
    replace hla : la ≤ 11 := hla
    have HLM : Hid ((∀ r ∈ rs, r.2.length ≤ 3) ∧ la ≤ 1000) := ⟨hlimP, by omega⟩
    have HBY : Hid (Below X.heap.size X Y) := hBy
    obtain ⟨mP, hmP⟩ : ∃ m, pmayB la rs = m := ⟨_, rfl⟩
    obtain ⟨p, hpa⟩ := parg_of_raws HP0.out.1 hla (rv_lim hlimP)
    rw [hmP] at hpa
    obtain ⟨mA, hA1, hA2, a, hA3⟩ := rform_is n4 o4 p4 l4 c4 m4 k4 zs ds X HP0.out.2.2.1.1.1 HW0.out.2.1.1 HP0.out.2.2.1.1.2 HW0.out.2.1.2 hl4 hm4 HP0.out.2.2.2
    obtain ⟨mS, hS1, hS2, hS3⟩ := sform_is n5 n6 o5 p5 o6 p6 l5 c5 m5 k5 l6 c6 m6 k6 x5 d5 x6 d6 X HP0.out.2.2.1.2.1 HW0.out.2.2.1 HP0.out.2.2.1.2.2.1 HW0.out.2.2.2.1 HP0.out.2.2.1.2.2.2.1 HW0.out.2.2.2.2.1 HP0.out.2.2.1.2.2.2.2 HW0.out.2.2.2.2.2 (by omega) (by omega) (by omega) (by omega) HP0.out.2.2.2
    obtain ⟨b1, b2, hS4⟩ : ∃ b1 b2 : Rat, (mS = true → (RatAt X n5 o5 l5 c5 p5 m5 k5 b1 ∧ RatAt X n6 o6 l6 c6 p6 m6 k6 b2) ∧ Sz b1 2 ∧ Sz b2 2 ∧ cmpQ b1 b2 ≤ 0) := by
     cases mS
     ·
      exact ⟨0, 0, fun e => by cases e⟩
     ·
      obtain ⟨b1, b2, h1, h2, _, _, h3⟩ := hS3 rfl
      exact ⟨b1, b2, fun _ => ⟨⟨h1, h2⟩, h1.sz hl5 hm5, h2.sz hl6 hm6, h3⟩⟩
    have hEA := earg_of hpa hA2 hA3
    have hSA := sarg_of hpa hS2 hS4
    obtain ⟨v5, hv5⟩ : ∃ v : Int, (if mP && mA then (0 : Int) else 50) = v := ⟨_, rfl⟩
    obtain ⟨v6, hv6⟩ : ∃ v : Int, (if mP && mS then (0 : Int) else 50) = v := ⟨_, rfl⟩
    rw [hv5] at hEA
    rw [hv6] at hSA
    have HEA : Hid (EArg X ao la ca p n4 o4 p4 l4 c4 m4 k4 a v5 ∧ SArg X ao la ca p n5 n6 o5 p5 o6 p6 l5 c5 m5 k5 l6 c6 m6 k6 b1 b2 v6) := ⟨hEA, hSA⟩
    have HV5 : Hid ((if mP && mA then (0 : Int) else 50) = v5) := hv5
    have HV6 : Hid ((if mP && mS then (0 : Int) else 50) = v6) := hv6
    have HMA : Hid (∀ V, Below X.heap.size X V → Calls Tryz.prog 7 #[.agg #[.bool n4, .slice o4 l4 c4, .slice p4 m4 k4]] V fun e w' => e = .returned (.bool mA) ∧ Below V.heap.size V w') := hA1
    have HMS : Hid (∀ V, Below X.heap.size X V → Calls Tryz.prog 8 #[.agg #[.bool n5, .slice o5 l5 c5, .slice p5 m5 k5, .bool n6, .slice o6 l6 c6, .slice p6 m6 k6]] V fun e w' => e = .returned (.bool mS) ∧ Below V.heap.size V w') := hS1
    have HMP : Hid (pmayB la rs = mP) := hmP
    obtain ⟨c1, hc1⟩ : ∃ c, bad1 mP = c := ⟨_, rfl⟩
    have HC1 : Hid (bad1 mP = c1) := hc1
    clear hP hQ hlimP hcond hBy hla hmP hpa hA1 hA2 hA3 hS1 hS2 hS3 hS4 hEA hSA hv5 hv6 hc1 hl4 hm4 hl5 hm5 hl6 hm6
    have fq0 := HCL.out Y HBY.out 0 _ rfl; have fq1 := HCL.out Y HBY.out 1 _ rfl; have fq2 := HCL.out Y HBY.out 2 _ rfl; have fq3 := HCL.out Y HBY.out 3 _ rfl; have fq4 := HCL.out Y HBY.out 4 _ rfl; have fq5 := HCL.out Y HBY.out 5 _ rfl; have fq6 := HCL.out Y HBY.out 6 _ rfl; have fq7 := HCL.out Y HBY.out 7 _ rfl; have fq8 := HCL.out Y HBY.out 8 _ rfl; have fq9 := HCL.out Y HBY.out 9 _ rfl; have fq10 := HCL.out Y HBY.out 10 _ rfl; have fq11 := HCL.out Y HBY.out 11 _ rfl; have fq12 := HCL.out Y HBY.out 12 _ rfl
    go_upto_if 32 with (first
     | (go_at_call 7; refine (HMA.out _ (bnext HBY.out HY1.out)).mono ?_; rintro e y2 ⟨rfl, hb2⟩; have HY2 : Hid (Below Y.heap.size Y y2) := bnext HY1.out hb2; clear hb2 fq4 fq5 fq6)
     | (go_at_call 6; refine (one4_any ao bo co la ca lb cb lc cc n n4 n5 n6 o4 p4 o5 p5 o6 p6 l4 c4 m4 k4 l5 c5 m5 k5 l6 c6 m6 k6 rs _ (HP0.out.1.later HBY.out) HLM.out.2 HLM.out.1 mP HMP.out c1 HC1.out).mono ?_; rintro e y1 ⟨rfl, hb1⟩; have HY1 : Hid (Below Y.heap.size Y y1) := hb1; clear hb1 fq0 fq1 fq2 fq3 fq4 fq5 fq6 fq7 fq8 fq9 fq10 fq11 fq12; have fq4 := HCL.out y1 (bnext HBY.out HY1.out) 4 _ rfl; have fq5 := HCL.out y1 (bnext HBY.out HY1.out) 5 _ rfl; have fq6 := HCL.out y1 (bnext HBY.out HY1.out) 6 _ rfl))
    go_cut [5] (fun s5 wx => s5 = .int .i64 v5 ∧ Below Y.heap.size Y wx)
    case first => as_aux_lemma =>
     have HY3 : Hid (Below Y.heap.size Y y2) := HY2.out
     cases mA
     ·
      go_wp2
      go_meet
      exact ⟨congrArg (Value.int .i64) (by have h := HV5.out; rw [Bool.and_false] at h; exact h), HY3.out⟩
     ·
      go_wp2
      go_meet
      exact ⟨congrArg (Value.int .i64) (by have h := HV5.out; have h1 := HC1.out; rw [Bool.and_true] at h; rw [← h, ← h1]; cases mP <;> rfl), HY3.out⟩
    case rest => as_aux_lemma =>
     obtain ⟨rfl, hBz⟩ := hcut
     obtain ⟨Z, hZ⟩ : ∃ Z, Z = wc := ⟨_, rfl⟩
     subst hZ
     have HZ : Hid (Below X.heap.size X Z) := bnext HBY.out hBz
     clear hBz
     have fq0 := HCL.out Z HZ.out 0 _ rfl; have fq1 := HCL.out Z HZ.out 1 _ rfl; have fq2 := HCL.out Z HZ.out 2 _ rfl; have fq3 := HCL.out Z HZ.out 3 _ rfl; have fq4 := HCL.out Z HZ.out 4 _ rfl; have fq5 := HCL.out Z HZ.out 5 _ rfl; have fq6 := HCL.out Z HZ.out 6 _ rfl; have fq7 := HCL.out Z HZ.out 7 _ rfl; have fq8 := HCL.out Z HZ.out 8 _ rfl; have fq9 := HCL.out Z HZ.out 9 _ rfl; have fq10 := HCL.out Z HZ.out 10 _ rfl; have fq11 := HCL.out Z HZ.out 11 _ rfl; have fq12 := HCL.out Z HZ.out 12 _ rfl
     go_upto_if 38 with (first
      | (go_at_call 8; refine (HMS.out _ (bnext HZ.out HY4.out)).mono ?_; rintro e y4 ⟨rfl, hb2⟩; have HY5 : Hid (Below Z.heap.size Z y4) := bnext HY4.out hb2; clear hb2 fq7 fq8 fq9 fq10 fq11 fq12)
      | (go_at_call 6; refine (one4_any ao bo co la ca lb cb lc cc n n4 n5 n6 o4 p4 o5 p5 o6 p6 l4 c4 m4 k4 l5 c5 m5 k5 l6 c6 m6 k6 rs _ (HP0.out.1.later HZ.out) HLM.out.2 HLM.out.1 mP HMP.out c1 HC1.out).mono ?_; rintro e y3 ⟨rfl, hb1⟩; have HY4 : Hid (Below Z.heap.size Z y3) := hb1; clear hb1 fq0 fq1 fq2 fq3 fq4 fq5 fq6 fq7 fq8 fq9 fq10 fq11 fq12; have fq7 := HCL.out y3 (bnext HZ.out HY4.out) 7 _ rfl; have fq8 := HCL.out y3 (bnext HZ.out HY4.out) 8 _ rfl; have fq9 := HCL.out y3 (bnext HZ.out HY4.out) 9 _ rfl; have fq10 := HCL.out y3 (bnext HZ.out HY4.out) 10 _ rfl; have fq11 := HCL.out y3 (bnext HZ.out HY4.out) 11 _ rfl; have fq12 := HCL.out y3 (bnext HZ.out HY4.out) 12 _ rfl))
     go_cut [6] (fun s6 wx => s6 = .int .i64 v6 ∧ Below Z.heap.size Z wx)
     case first => as_aux_lemma =>
      have HY6 : Hid (Below Z.heap.size Z y4) := HY5.out
      cases mS
      ·
       go_wp2
       go_meet
       exact ⟨congrArg (Value.int .i64) (by have h := HV6.out; rw [Bool.and_false] at h; exact h), HY6.out⟩
      ·
       go_wp2
       go_meet
       exact ⟨congrArg (Value.int .i64) (by have h := HV6.out; have h1 := HC1.out; rw [Bool.and_true] at h; rw [← h, ← h1]; cases mP <;> rfl), HY6.out⟩
     case rest => as_aux_lemma =>
      obtain ⟨rfl, hBz⟩ := hcut
      obtain ⟨Q, hQ⟩ : ∃ Q, Q = wc := ⟨_, rfl⟩
      subst hQ
      have HQ : Hid (Below X.heap.size X Q) := bnext HZ.out hBz
      clear hBz HMA HMS HMP HC1 HV5 HV6 HBY HW0 HLM HZ
      go_upto_region 13 with fail
      go_cut [7, 8] (fun s7 s8 wx => ∃ r7 n o l c q m k, s7 = .pointer (some ⟨r7, 0, none⟩) ∧ s8 = .int .i64 v5 ∧ Bx wx r7 [.bool n, .slice o l c, .slice q m k] ∧ EVal wx v5 n o q l c m k (evQ p a) ∧ Below Q.heap.size Q wx)
      case first => as_aux_lemma =>
       have fq0 := HCL.out Q HQ.out 0 _ rfl; have fq4 := HCL.out Q HQ.out 4 _ rfl; have fq5 := HCL.out Q HQ.out 5 _ rfl; have fq6 := HCL.out Q HQ.out 6 _ rfl
       go_wp2_with (go_at_call 9; refine (peval_is ao la ca p n4 o4 p4 l4 c4 m4 k4 a v5 Q (HEA.out.1.later HQ.out) (tab_later HP0.out.2.2.2 HQ.out)).mono ?_; rintro e y1 ⟨n, o, l, c, q, m, k, rfl, hX, hb⟩; have H1 : Hid (EVal y1 v5 n o q l c m k (evQ p a) ∧ Below Q.heap.size Q y1) := ⟨hX, hb⟩; clear hX hb)
       go_meet
       have hA : Below y1.heap.size y1 (y1.alloc (.cells #[.bool n, .slice o l c, .slice q m k] 30)) := (Below.refl _ _).alloc (Nat.le_refl _) _
       exact ⟨_, _, _, _, _, _, _, _, rfl, rfl, Bx.new y1 [.bool n, .slice o l c, .slice q m k] _, H1.out.1.later hA, bnext H1.out.2 hA⟩
      case rest => as_aux_lemma =>
       obtain ⟨r7, n7, o7, l7, c7, p7, m7, k7, rfl, rfl, hbx, hval, hB1⟩ := hcut
       obtain ⟨U, hU⟩ : ∃ U, U = wc := ⟨_, rfl⟩
       subst hU
       have HU : Hid ((∀ V, Below U.heap.size U V → Bx V r7 [.bool n7, .slice o7 l7 c7, .slice p7 m7 k7]) ∧ EVal U v5 n7 o7 p7 l7 c7 m7 k7 (evQ p a) ∧ Below X.heap.size X U) := ⟨fun V hV => hbx.later hV hbx.lt, hval, bnext HQ.out hB1⟩
       clear hbx hval hB1 HQ
       go_upto_region 14 with fail
       go_cut [9, 10] (fun s9 s10 wx => ∃ r9 nX oX lX cX pX mX kX nY oY lY cY pY mY kY, s9 = .pointer (some ⟨r9, 0, none⟩) ∧ s10 = .int .i64 v6 ∧ Bx wx r9 [.bool nX, .slice oX lX cX, .slice pX mX kX, .bool nY, .slice oY lY cY, .slice pY mY kY] ∧ SVal wx v6 nX nY oX pX oY pY lX cX mX kX lY cY mY kY (vLo p b1 b2) (vHi p b1 b2) ∧ Below U.heap.size U wx)
       case first => as_aux_lemma =>
        have fq0 := HCL.out U HU.out.2.2 0 _ rfl; have fq7 := HCL.out U HU.out.2.2 7 _ rfl; have fq8 := HCL.out U HU.out.2.2 8 _ rfl; have fq9 := HCL.out U HU.out.2.2 9 _ rfl; have fq10 := HCL.out U HU.out.2.2 10 _ rfl; have fq11 := HCL.out U HU.out.2.2 11 _ rfl; have fq12 := HCL.out U HU.out.2.2 12 _ rfl
        go_wp2_with (go_at_call 10; refine (pevspan_is ao la ca p n5 n6 o5 p5 o6 p6 l5 c5 m5 k5 l6 c6 m6 k6 b1 b2 v6 U (HEA.out.2.later HU.out.2.2) (tab_later HP0.out.2.2.2 HU.out.2.2)).mono ?_; rintro e y1 ⟨nX, oX, lX, cX, pX, mX, kX, nY, oY, lY, cY, pY, mY, kY, rfl, hX, hb⟩; have H1 : Hid (SVal y1 v6 nX nY oX pX oY pY lX cX mX kX lY cY mY kY (vLo p b1 b2) (vHi p b1 b2) ∧ Below U.heap.size U y1) := ⟨hX, hb⟩; clear hX hb)
        go_meet
        have hA : Below y1.heap.size y1 (y1.alloc (.cells #[.bool nX, .slice oX lX cX, .slice pX mX kX, .bool nY, .slice oY lY cY, .slice pY mY kY] 32)) := (Below.refl _ _).alloc (Nat.le_refl _) _
        exact ⟨_, _, _, _, _, _, _, _, _, _, _, _, _, _, _, rfl, rfl, Bx.new y1 [.bool nX, .slice oX lX cX, .slice pX mX kX, .bool nY, .slice oY lY cY, .slice pY mY kY] _, H1.out.1.later hA, bnext H1.out.2 hA⟩
       case rest => as_aux_lemma =>
        obtain ⟨r9, nX, oX, lX, cX, pX, mX, kX, nY, oY, lY, cY, pY, mY, kY, rfl, rfl, hbx, hval, hB1⟩ := hcut
        obtain ⟨S, hS⟩ : ∃ S, S = wc := ⟨_, rfl⟩
        subst hS
        have HS : Hid ((∀ V, Below S.heap.size S V → Bx V r7 [.bool n7, .slice o7 l7 c7, .slice p7 m7 k7] ∧ Bx V r9 [.bool nX, .slice oX lX cX, .slice pX mX kX, .bool nY, .slice oY lY cY, .slice pY mY kY]) ∧ (EVal S v5 n7 o7 p7 l7 c7 m7 k7 (evQ p a) ∧ SVal S v6 nX nY oX pX oY pY lX cX mX kX lY cY mY kY (vLo p b1 b2) (vHi p b1 b2)) ∧ Below X.heap.size X S) := ⟨fun V hV => ⟨HU.out.1 V (bnext hB1 hV), hbx.later hV hbx.lt⟩, ⟨HU.out.2.1.later hB1, hval⟩, bnext HU.out.2.2 hB1⟩
        clear hbx hval hB1 HU
        go_upto_region 15 with fail
        go_cut [87] (fun s87 wx => s87 = .bool false ∧ Below S.heap.size S wx)
        case first => as_aux_lemma =>
         rcases HS.out.2.1.1 with ⟨hv, hr⟩ | ⟨hv, hn, ho, hq, hl1, hc1, hm1, hk1⟩
         ·
          subst hv
          have HR : Hid (RatAt S n7 o7 l7 c7 p7 m7 k7 (evQ p a)) := hr
          have HG : Hid (GP X ao la ca 3 p ∧ RatAt X n4 o4 l4 c4 p4 m4 k4 a ∧ Sz a 2 ∧ p.length ≤ 11) := by
           rcases HEA.out.1 with ⟨_, h⟩ | ⟨h, _⟩
           ·
            exact h
           ·
            exact absurd h (by decide)
          clear hr
          refine wp_region_noPanic ?_
          refine wp_region_held_drew (S := fun w' => (w'.cell? ⟨r7, 0, none⟩ = some (.bool n7) ∧ w'.cell? ⟨r7, 1, none⟩ = some (.slice o7 l7 c7) ∧ w'.cell? ⟨r7, 2, none⟩ = some (.slice p7 m7 k7) ∧ w'.cell? ⟨wo.heap.size, 0, none⟩ = some (.slice ao la ca) ∧ w'.cell? ⟨wo.heap.size, 4, none⟩ = some (.bool n4) ∧ w'.cell? ⟨wo.heap.size, 5, none⟩ = some (.slice o4 l4 c4) ∧ w'.cell? ⟨wo.heap.size, 6, none⟩ = some (.slice p4 m4 k4))) (by kernel_rfl) (by (try dsimp only); exact (show _ from ⟨(HS.out.1 _ ((Below.refl _ _).drew)).1.1 0 _ rfl, (HS.out.1 _ ((Below.refl _ _).drew)).1.1 1 _ rfl, (HS.out.1 _ ((Below.refl _ _).drew)).1.1 2 _ rfl, HCL.out _ (bnext HS.out.2.2 ((Below.refl _ _).drew)) 0 _ rfl, HCL.out _ (bnext HS.out.2.2 ((Below.refl _ _).drew)) 4 _ rfl, HCL.out _ (bnext HS.out.2.2 ((Below.refl _ _).drew)) 5 _ rfl, HCL.out _ (bnext HS.out.2.2 ((Below.refl _ _).drew)) 6 _ rfl⟩)) (fun hHeld => ?_)
          refine wpAnyH_take (i := 0) (oi := Oper.mk (some 55) _ _ _ _ _) (v := ?_) rfl (by decide +kernel) (by decide +kernel) (by decide +kernel) (fun _ _ _ h => h) (Or.inl ⟨by rfl, ?_⟩) (by assumption) ?_
          rotate_left
          ·
           (intro w hSw; (try dsimp only at hSw); go_simp <;> (try with_reducible rfl))
          (try simp only [Act.put, List.setIfInBounds_toArray, List.set_cons_zero, List.set_cons_succ])
          refine wpAnyH_take (i := 1) (oi := Oper.mk (some 56) _ _ _ _ _) (v := ?_) rfl (by decide +kernel) (by decide +kernel) (by decide +kernel) (fun _ _ _ h => h) (Or.inl ⟨by rfl, ?_⟩) (by assumption) ?_
          rotate_left
          ·
           (intro w hSw; (try dsimp only at hSw); go_simp <;> (try with_reducible rfl))
          (try simp only [Act.put, List.setIfInBounds_toArray, List.set_cons_zero, List.set_cons_succ])
          refine wpAnyH_take (i := 2) (oi := Oper.mk (some 57) _ _ _ _ _) (v := ?_) rfl (by decide +kernel) (by decide +kernel) (by decide +kernel) (fun _ _ _ h => h) (Or.inl ⟨by rfl, ?_⟩) (by assumption) ?_
          rotate_left
          ·
           (intro w hSw; (try dsimp only at hSw); go_simp <;> (try with_reducible rfl))
          (try simp only [Act.put, List.setIfInBounds_toArray, List.set_cons_zero, List.set_cons_succ])
          refine wpAnyH_take (i := 3) (oi := Oper.mk (some 58) _ _ _ _ _) (v := undef) rfl (by decide +kernel) (by decide +kernel) (by decide +kernel) (fun _ _ _ h => h) (Or.inr ⟨by rfl, rfl⟩) (by assumption) ?_
          (try simp only [Act.put, List.setIfInBounds_toArray, List.set_cons_zero, List.set_cons_succ])
          refine wpAnyH_take (i := 4) (oi := Oper.mk (some 59) _ _ _ _ _) (v := undef) rfl (by decide +kernel) (by decide +kernel) (by decide +kernel) (fun _ _ _ h => h) (Or.inr ⟨by rfl, rfl⟩) (by assumption) ?_
          (try simp only [Act.put, List.setIfInBounds_toArray, List.set_cons_zero, List.set_cons_succ])
          refine wpAnyH_take (i := 5) (oi := Oper.mk (some 60) _ _ _ _ _) (v := undef) rfl (by decide +kernel) (by decide +kernel) (by decide +kernel) (fun _ _ _ h => h) (Or.inr ⟨by rfl, rfl⟩) (by assumption) ?_
          (try simp only [Act.put, List.setIfInBounds_toArray, List.set_cons_zero, List.set_cons_succ])
          refine wpAnyH_take (i := 6) (oi := Oper.mk (some 61) _ _ _ _ _) (v := undef) rfl (by decide +kernel) (by decide +kernel) (by decide +kernel) (fun _ _ _ h => h) (Or.inr ⟨by rfl, rfl⟩) (by assumption) ?_
          (try simp only [Act.put, List.setIfInBounds_toArray, List.set_cons_zero, List.set_cons_succ])
          refine wpAnyH_take (i := 7) (oi := Oper.mk (some 62) _ _ _ _ _) (v := undef) rfl (by decide +kernel) (by decide +kernel) (by decide +kernel) (fun _ _ _ h => h) (Or.inr ⟨by rfl, rfl⟩) (by assumption) ?_
          (try simp only [Act.put, List.setIfInBounds_toArray, List.set_cons_zero, List.set_cons_succ])
          refine wpAnyH_take (i := 8) (oi := Oper.mk (some 63) _ _ _ _ _) (v := undef) rfl (by decide +kernel) (by decide +kernel) (by decide +kernel) (fun _ _ _ h => h) (Or.inr ⟨by rfl, rfl⟩) (by assumption) ?_
          (try simp only [Act.put, List.setIfInBounds_toArray, List.set_cons_zero, List.set_cons_succ])
          refine wpAnyH_take (i := 9) (oi := Oper.mk (some 64) _ _ _ _ _) (v := undef) rfl (by decide +kernel) (by decide +kernel) (by decide +kernel) (fun _ _ _ h => h) (Or.inr ⟨by rfl, rfl⟩) (by assumption) ?_
          (try simp only [Act.put, List.setIfInBounds_toArray, List.set_cons_zero, List.set_cons_succ])
          refine wpAnyH_take (i := 10) (oi := Oper.mk (some 65) _ _ _ _ _) (v := undef) rfl (by decide +kernel) (by decide +kernel) (by decide +kernel) (fun _ _ _ h => h) (Or.inr ⟨by rfl, rfl⟩) (by assumption) ?_
          (try simp only [Act.put, List.setIfInBounds_toArray, List.set_cons_zero, List.set_cons_succ])
          refine wpAnyH_take (i := 11) (oi := Oper.mk (some 66) _ _ _ _ _) (v := undef) rfl (by decide +kernel) (by decide +kernel) (by decide +kernel) (fun _ _ _ h => h) (Or.inr ⟨by rfl, rfl⟩) (by assumption) ?_
          (try simp only [Act.put, List.setIfInBounds_toArray, List.set_cons_zero, List.set_cons_succ])
          refine wpAnyH_take (i := 12) (oi := Oper.mk (some 67) _ _ _ _ _) (v := undef) rfl (by decide +kernel) (by decide +kernel) (by decide +kernel) (fun _ _ _ h => h) (Or.inr ⟨by rfl, rfl⟩) (by assumption) ?_
          (try simp only [Act.put, List.setIfInBounds_toArray, List.set_cons_zero, List.set_cons_succ])
          refine wpAnyH_take (i := 13) (oi := Oper.mk (some 68) _ _ _ _ _) (v := ?_) rfl (by decide +kernel) (by decide +kernel) (by decide +kernel) (fun _ _ _ h => h) (Or.inl ⟨by rfl, ?_⟩) (by assumption) ?_
          rotate_left
          ·
           (intro w hSw; (try dsimp only at hSw); go_simp <;> (try with_reducible rfl))
          (try simp only [Act.put, List.setIfInBounds_toArray, List.set_cons_zero, List.set_cons_succ])
          refine wpAnyH_take (i := 14) (oi := Oper.mk (some 69) _ _ _ _ _) (v := ?_) rfl (by decide +kernel) (by decide +kernel) (by decide +kernel) (fun _ _ _ h => h) (Or.inl ⟨by rfl, ?_⟩) (by assumption) ?_
          rotate_left
          ·
           (intro w hSw; (try dsimp only at hSw); go_simp <;> (try with_reducible rfl))
          (try simp only [Act.put, List.setIfInBounds_toArray, List.set_cons_zero, List.set_cons_succ])
          refine wpAnyH_take (i := 15) (oi := Oper.mk (some 70) _ _ _ _ _) (v := ?_) rfl (by decide +kernel) (by decide +kernel) (by decide +kernel) (fun _ _ _ h => h) (Or.inl ⟨by rfl, ?_⟩) (by assumption) ?_
          rotate_left
          ·
           (intro w hSw; (try dsimp only at hSw); go_simp <;> (try with_reducible rfl))
          (try simp only [Act.put, List.setIfInBounds_toArray, List.set_cons_zero, List.set_cons_succ])
          refine wpAnyH_take (i := 16) (oi := Oper.mk (some 71) _ _ _ _ _) (v := ?_) rfl (by decide +kernel) (by decide +kernel) (by decide +kernel) (fun _ _ _ h => h) (Or.inl ⟨by rfl, ?_⟩) (by assumption) ?_
          rotate_left
          ·
           (intro w hSw; (try dsimp only at hSw); go_simp <;> (try with_reducible rfl))
          (try simp only [Act.put, List.setIfInBounds_toArray, List.set_cons_zero, List.set_cons_succ])
          refine wpAnyH_take (i := 17) (oi := Oper.mk (some 72) _ _ _ _ _) (v := ?_) rfl (by decide +kernel) (by decide +kernel) (by decide +kernel) (fun _ _ _ h => h) (Or.inl ⟨by rfl, ?_⟩) (by assumption) ?_
          rotate_left
          ·
           (intro w hSw; (try dsimp only at hSw); go_simp <;> (try with_reducible rfl))
          (try simp only [Act.put, List.setIfInBounds_toArray, List.set_cons_zero, List.set_cons_succ])
          refine wpAnyH_take (i := 18) (oi := Oper.mk (some 73) _ _ _ _ _) (v := ?_) rfl (by decide +kernel) (by decide +kernel) (by decide +kernel) (fun _ _ _ h => h) (Or.inl ⟨by rfl, ?_⟩) (by assumption) ?_
          rotate_left
          ·
           (intro w hSw; (try dsimp only at hSw); go_simp <;> (try with_reducible rfl))
          (try simp only [Act.put, List.setIfInBounds_toArray, List.set_cons_zero, List.set_cons_succ])
          refine wpAnyH_ready (rs := [19]) (by decide +kernel) (by simp) ?_
          refine AllReadyH.cons (o := Oper.mk (some 74) _ _ _ _ _) rfl (fun K hK => ?_) AllReadyH.nil
          go_simp
          (go_at_call 11; refine (num4_any 0 _).mono ?_; rintro e y1 ⟨rfl, hb⟩; have H1 : Hid (Below S.heap.size S y1) := bnext (Below.refl _ _).drew hb; clear hb)
          (try go_wp2_with fail)
          clear hHeld
          refine hK.out _ _ (by (try dsimp only); exact ⟨(HS.out.1 _ (H1.out)).1.1 0 _ rfl, (HS.out.1 _ (H1.out)).1.1 1 _ rfl, (HS.out.1 _ (H1.out)).1.1 2 _ rfl, HCL.out _ (bnext HS.out.2.2 (H1.out)) 0 _ rfl, HCL.out _ (bnext HS.out.2.2 (H1.out)) 4 _ rfl, HCL.out _ (bnext HS.out.2.2 (H1.out)) 5 _ rfl, HCL.out _ (bnext HS.out.2.2 (H1.out)) 6 _ rfl⟩) (fun hHeld => ?_)
          clear hK K
          (try simp only [Act.put, List.setIfInBounds_toArray, List.set_cons_zero, List.set_cons_succ])
          refine wpAnyH_take (i := 20) (oi := Oper.mk (some 75) _ _ _ _ _) (v := ?_) rfl (by decide +kernel) (by decide +kernel) (by decide +kernel) (fun _ _ _ h => h) (Or.inl ⟨by rfl, ?_⟩) (by assumption) ?_
          rotate_left
          ·
           (intro w hSw; (try dsimp only at hSw); go_simp <;> (try with_reducible rfl))
          (try simp only [Act.put, List.setIfInBounds_toArray, List.set_cons_zero, List.set_cons_succ])
          refine wpAnyH_take (i := 21) (oi := Oper.mk (some 76) _ _ _ _ _) (v := ?_) rfl (by decide +kernel) (by decide +kernel) (by decide +kernel) (fun _ _ _ h => h) (Or.inl ⟨by rfl, ?_⟩) (by assumption) ?_
          rotate_left
          ·
           (intro w hSw; (try dsimp only at hSw); go_simp <;> (try with_reducible rfl))
          (try simp only [Act.put, List.setIfInBounds_toArray, List.set_cons_zero, List.set_cons_succ])
          refine wpAnyH_take (i := 22) (oi := Oper.mk (some 77) _ _ _ _ _) (v := ?_) rfl (by decide +kernel) (by decide +kernel) (by decide +kernel) (fun _ _ _ h => h) (Or.inl ⟨by rfl, ?_⟩) (by assumption) ?_
          rotate_left
          ·
           (intro w hSw; (try dsimp only at hSw); go_simp <;> (try with_reducible rfl))
          (try simp only [Act.put, List.setIfInBounds_toArray, List.set_cons_zero, List.set_cons_succ])
          refine wpAnyH_take (i := 23) (oi := Oper.mk (some 78) _ _ _ _ _) (v := ?_) rfl (by decide +kernel) (by decide +kernel) (by decide +kernel) (fun _ _ _ h => h) (Or.inl ⟨by rfl, ?_⟩) (by assumption) ?_
          rotate_left
          ·
           (intro w hSw; (try dsimp only at hSw); go_simp <;> (try with_reducible rfl))
          (try simp only [Act.put, List.setIfInBounds_toArray, List.set_cons_zero, List.set_cons_succ])
          refine wpAnyH_take (i := 24) (oi := Oper.mk (some 79) _ _ _ _ _) (v := ?_) rfl (by decide +kernel) (by decide +kernel) (by decide +kernel) (fun _ _ _ h => h) (Or.inl ⟨by rfl, ?_⟩) (by assumption) ?_
          rotate_left
          ·
           (intro w hSw; (try dsimp only at hSw); go_simp <;> (try with_reducible rfl))
          (try simp only [Act.put, List.setIfInBounds_toArray, List.set_cons_zero, List.set_cons_succ])
          refine wpAnyH_take (i := 25) (oi := Oper.mk (some 80) _ _ _ _ _) (v := ?_) rfl (by decide +kernel) (by decide +kernel) (by decide +kernel) (fun _ _ _ h => h) (Or.inl ⟨by rfl, ?_⟩) (by assumption) ?_
          rotate_left
          ·
           (intro w hSw; (try dsimp only at hSw); go_simp <;> (try with_reducible rfl))
          (try simp only [Act.put, List.setIfInBounds_toArray, List.set_cons_zero, List.set_cons_succ])
          refine wpAnyH_take (i := 26) (oi := Oper.mk (some 81) _ _ _ _ _) (v := ?_) rfl (by decide +kernel) (by decide +kernel) (by decide +kernel) (fun _ _ _ h => h) (Or.inl ⟨by rfl, ?_⟩) (by assumption) ?_
          rotate_left
          ·
           (intro w hSw; (try dsimp only at hSw); go_simp <;> (try with_reducible rfl))
          (try simp only [Act.put, List.setIfInBounds_toArray, List.set_cons_zero, List.set_cons_succ])
          refine wpAnyH_ready (rs := [27]) (by decide +kernel) (by simp) ?_
          refine AllReadyH.cons (o := Oper.mk (some 82) _ _ _ _ _) rfl (fun K hK => ?_) AllReadyH.nil
          go_simp
          (go_at_call 13; refine (reval_any ao la ca p n4 o4 p4 l4 c4 m4 k4 a _ (HG.out.1.later (bnext HS.out.2.2 H1.out)).at' (HG.out.2.1.later (bnext HS.out.2.2 H1.out)) HG.out.2.2.1 (by have h1 := HG.out.1.at'.hlen; have h2 := HG.out.2.2.2; omega) HG.out.1.lims).mono ?_; rintro e y2 ⟨n9, o9, l9, c9, p9, m9, k9, rfl, h9, hb⟩; have H2 : Hid (RatAt y2 n9 o9 l9 c9 p9 m9 k9 (evQ p a) ∧ Below S.heap.size S y2) := ⟨h9, bnext H1.out hb⟩; clear h9 hb)
          (try go_wp2_with fail)
          clear hHeld
          refine hK.out _ _ (by (try dsimp only); exact ⟨(HS.out.1 _ (H2.out.2)).1.1 0 _ rfl, (HS.out.1 _ (H2.out.2)).1.1 1 _ rfl, (HS.out.1 _ (H2.out.2)).1.1 2 _ rfl, HCL.out _ (bnext HS.out.2.2 (H2.out.2)) 0 _ rfl, HCL.out _ (bnext HS.out.2.2 (H2.out.2)) 4 _ rfl, HCL.out _ (bnext HS.out.2.2 (H2.out.2)) 5 _ rfl, HCL.out _ (bnext HS.out.2.2 (H2.out.2)) 6 _ rfl⟩) (fun hHeld => ?_)
          clear hK K
          (try simp only [Act.put, List.setIfInBounds_toArray, List.set_cons_zero, List.set_cons_succ])
          refine wpAnyH_ready (rs := [28]) (by decide +kernel) (by simp) ?_
          refine AllReadyH.cons (o := Oper.mk (some 83) _ _ _ _ _) rfl (fun K hK => ?_) AllReadyH.nil
          go_simp
          (go_at_call 12; refine (eqrat_same n7 n9 o7 p7 o9 p9 l7 c7 m7 k7 l9 c9 m9 k9 (evQ p a) _ (HR.out.later H2.out.2) H2.out.1 (rat_short HR.out (ev_sz0 HG.out.1.lims HG.out.2.2.2 HG.out.2.2.1)).1 (rat_short HR.out (ev_sz0 HG.out.1.lims HG.out.2.2.2 HG.out.2.2.1)).2).mono ?_; rintro e y3 ⟨rfl, hb⟩; have H3 : Hid (Below S.heap.size S y3) := bnext H2.out.2 hb; clear hb)
          (try go_wp2_with fail)
          clear hHeld
          refine hK.out _ _ (by (try dsimp only); exact ⟨(HS.out.1 _ (H3.out)).1.1 0 _ rfl, (HS.out.1 _ (H3.out)).1.1 1 _ rfl, (HS.out.1 _ (H3.out)).1.1 2 _ rfl, HCL.out _ (bnext HS.out.2.2 (H3.out)) 0 _ rfl, HCL.out _ (bnext HS.out.2.2 (H3.out)) 4 _ rfl, HCL.out _ (bnext HS.out.2.2 (H3.out)) 5 _ rfl, HCL.out _ (bnext HS.out.2.2 (H3.out)) 6 _ rfl⟩) (fun hHeld => ?_)
          clear hK K
          (try simp only [Act.put, List.setIfInBounds_toArray, List.set_cons_zero, List.set_cons_succ])
          refine wpAnyH_take (i := 29) (oi := Oper.mk (some 84) _ _ _ _ _) (v := ?_) rfl (by decide +kernel) (by decide +kernel) (by decide +kernel) (fun _ _ _ h => h) (Or.inl ⟨by rfl, ?_⟩) (by assumption) ?_
          rotate_left
          ·
           (intro w hSw; (try dsimp only at hSw); go_simp <;> (try with_reducible rfl))
          (try simp only [Act.put, List.setIfInBounds_toArray, List.set_cons_zero, List.set_cons_succ])
          refine wpAnyH_take (i := 30) (oi := Oper.mk (some 85) _ _ _ _ _) (v := ?_) rfl (by decide +kernel) (by decide +kernel) (by decide +kernel) (fun _ _ _ h => h) (Or.inl ⟨by rfl, ?_⟩) (by assumption) ?_
          rotate_left
          ·
           (intro w hSw; (try dsimp only at hSw); go_simp <;> (try with_reducible rfl))
          (try simp only [Act.put, List.setIfInBounds_toArray, List.set_cons_zero, List.set_cons_succ])
          refine wpAnyH_take (i := 31) (oi := Oper.mk (some 86) _ _ _ _ _) (v := ?_) rfl (by decide +kernel) (by decide +kernel) (by decide +kernel) (fun _ _ _ h => h) (Or.inl ⟨by rfl, ?_⟩) (by assumption) ?_
          rotate_left
          ·
           (intro w hSw; (try dsimp only at hSw); go_simp <;> (try with_reducible rfl))
          (try simp only [Act.put, List.setIfInBounds_toArray, List.set_cons_zero, List.set_cons_succ])
          refine wpAnyH_take (i := 32) (oi := Oper.mk (some 87) _ _ _ _ _) (v := ?_) rfl (by decide +kernel) (by decide +kernel) (by decide +kernel) (fun _ _ _ h => h) (Or.inl ⟨by rfl, ?_⟩) (by assumption) ?_
          rotate_left
          ·
           (intro w hSw; (try dsimp only at hSw); go_simp <;> (try with_reducible rfl))
          (try simp only [Act.put, List.setIfInBounds_toArray, List.set_cons_zero, List.set_cons_succ])
          refine wpAnyH_done (by decide +kernel) ?_ _
          refine NoPanic.normal ?_
          (first | go_meet | (show Exit.then _ _ Exit.normal _ _; go_wp2; go_meet))
          exact ⟨rfl, H3.out⟩
         ·
          subst hv
          subst hn ho hq hl1 hc1 hm1 hk1
          refine wp_region_noPanic ?_
          refine wp_region_held_drew (S := fun w' => (w'.cell? ⟨r7, 0, none⟩ = some (.bool false) ∧ w'.cell? ⟨r7, 1, none⟩ = some (.slice none 0 0) ∧ w'.cell? ⟨r7, 2, none⟩ = some (.slice none 0 0))) (by kernel_rfl) (by (try dsimp only); exact (show _ from ⟨(HS.out.1 _ ((Below.refl _ _).drew)).1.1 0 _ rfl, (HS.out.1 _ ((Below.refl _ _).drew)).1.1 1 _ rfl, (HS.out.1 _ ((Below.refl _ _).drew)).1.1 2 _ rfl⟩)) (fun hHeld => ?_)
          refine wpAnyH_take (i := 0) (oi := Oper.mk (some 55) _ _ _ _ _) (v := ?_) rfl (by decide +kernel) (by decide +kernel) (by decide +kernel) (fun _ _ _ h => h) (Or.inl ⟨by rfl, ?_⟩) (by assumption) ?_
          rotate_left
          ·
           (intro w hSw; (try dsimp only at hSw); go_simp <;> (try with_reducible rfl))
          (try simp only [Act.put, List.setIfInBounds_toArray, List.set_cons_zero, List.set_cons_succ])
          refine wpAnyH_take (i := 1) (oi := Oper.mk (some 56) _ _ _ _ _) (v := ?_) rfl (by decide +kernel) (by decide +kernel) (by decide +kernel) (fun _ _ _ h => h) (Or.inl ⟨by rfl, ?_⟩) (by assumption) ?_
          rotate_left
          ·
           (intro w hSw; (try dsimp only at hSw); go_simp <;> (try with_reducible rfl))
          (try simp only [Act.put, List.setIfInBounds_toArray, List.set_cons_zero, List.set_cons_succ])
          refine wpAnyH_take (i := 2) (oi := Oper.mk (some 57) _ _ _ _ _) (v := ?_) rfl (by decide +kernel) (by decide +kernel) (by decide +kernel) (fun _ _ _ h => h) (Or.inl ⟨by rfl, ?_⟩) (by assumption) ?_
          rotate_left
          ·
           (intro w hSw; (try dsimp only at hSw); go_simp <;> (try with_reducible rfl))
          (try simp only [Act.put, List.setIfInBounds_toArray, List.set_cons_zero, List.set_cons_succ])
          refine wpAnyH_take (i := 3) (oi := Oper.mk (some 58) _ _ _ _ _) (v := ?_) rfl (by decide +kernel) (by decide +kernel) (by decide +kernel) (fun _ _ _ h => h) (Or.inl ⟨by rfl, ?_⟩) (by assumption) ?_
          rotate_left
          ·
           (intro w hSw; (try dsimp only at hSw); go_simp <;> (try with_reducible rfl))
          (try simp only [Act.put, List.setIfInBounds_toArray, List.set_cons_zero, List.set_cons_succ])
          refine wpAnyH_take (i := 5) (oi := Oper.mk (some 60) _ _ _ _ _) (v := ?_) rfl (by decide +kernel) (by decide +kernel) (by decide +kernel) (fun _ _ _ h => h) (Or.inl ⟨by rfl, ?_⟩) (by assumption) ?_
          rotate_left
          ·
           (intro w hSw; (try dsimp only at hSw); go_simp <;> (try with_reducible rfl))
          (try simp only [Act.put, List.setIfInBounds_toArray, List.set_cons_zero, List.set_cons_succ])
          refine wpAnyH_ready (rs := [4]) (by decide +kernel) (by simp) ?_
          refine AllReadyH.cons (o := Oper.mk (some 59) _ _ _ _ _) rfl (fun K hK => ?_) AllReadyH.nil
          go_simp
          (go_at_call 11; refine (num4_any 50 _).mono ?_; rintro e y1 ⟨rfl, hb⟩; have H1 : Hid (Below S.heap.size S y1) := bnext (Below.refl _ _).drew hb; clear hb)
          (try go_wp2_with fail)
          clear hHeld
          refine hK.out _ _ (by (try dsimp only); exact ⟨(HS.out.1 _ (H1.out)).1.1 0 _ rfl, (HS.out.1 _ (H1.out)).1.1 1 _ rfl, (HS.out.1 _ (H1.out)).1.1 2 _ rfl⟩) (fun hHeld => ?_)
          clear hK K
          (try simp only [Act.put, List.setIfInBounds_toArray, List.set_cons_zero, List.set_cons_succ])
          refine wpAnyH_take (i := 6) (oi := Oper.mk (some 61) _ _ _ _ _) (v := ?_) rfl (by decide +kernel) (by decide +kernel) (by decide +kernel) (fun _ _ _ h => h) (Or.inl ⟨by rfl, ?_⟩) (by assumption) ?_
          rotate_left
          ·
           (intro w hSw; (try dsimp only at hSw); go_simp <;> (try with_reducible rfl))
          (try simp only [Act.put, List.setIfInBounds_toArray, List.set_cons_zero, List.set_cons_succ])
          refine wpAnyH_take (i := 7) (oi := Oper.mk (some 62) _ _ _ _ _) (v := ?_) rfl (by decide +kernel) (by decide +kernel) (by decide +kernel) (fun _ _ _ h => h) (Or.inl ⟨by rfl, ?_⟩) (by assumption) ?_
          rotate_left
          ·
           (intro w hSw; (try dsimp only at hSw); go_simp <;> (try with_reducible rfl))
          (try simp only [Act.put, List.setIfInBounds_toArray, List.set_cons_zero, List.set_cons_succ])
          refine wpAnyH_take (i := 8) (oi := Oper.mk (some 63) _ _ _ _ _) (v := ?_) rfl (by decide +kernel) (by decide +kernel) (by decide +kernel) (fun _ _ _ h => h) (Or.inl ⟨by rfl, ?_⟩) (by assumption) ?_
          rotate_left
          ·
           (intro w hSw; (try dsimp only at hSw); go_simp <;> (try with_reducible rfl))
          (try simp only [Act.put, List.setIfInBounds_toArray, List.set_cons_zero, List.set_cons_succ])
          refine wpAnyH_take (i := 9) (oi := Oper.mk (some 64) _ _ _ _ _) (v := ?_) rfl (by decide +kernel) (by decide +kernel) (by decide +kernel) (fun _ _ _ h => h) (Or.inl ⟨by rfl, ?_⟩) (by assumption) ?_
          rotate_left
          ·
           (intro w hSw; (try dsimp only at hSw); go_simp <;> (try with_reducible rfl))
          (try simp only [Act.put, List.setIfInBounds_toArray, List.set_cons_zero, List.set_cons_succ])
          refine wpAnyH_ready (rs := [10]) (by decide +kernel) (by simp) ?_
          refine AllReadyH.cons (o := Oper.mk (some 65) _ _ _ _ _) rfl (fun K hK => ?_) AllReadyH.nil
          go_simp
          (go_at_call 12; refine (eqraw_same false none none none none 0 0 0 0 0 0 0 0 [] [] _ (RowAt.nilRow _ _) (RowAt.nilRow _ _) (RowAt.nilRow _ _) (RowAt.nilRow _ _) (by omega) (by omega)).mono ?_; rintro e y3 ⟨rfl, hb⟩; have H3 : Hid (Below S.heap.size S y3) := bnext H1.out hb; clear hb)
          (try go_wp2_with fail)
          clear hHeld
          refine hK.out _ _ (by (try dsimp only); exact ⟨(HS.out.1 _ (H3.out)).1.1 0 _ rfl, (HS.out.1 _ (H3.out)).1.1 1 _ rfl, (HS.out.1 _ (H3.out)).1.1 2 _ rfl⟩) (fun hHeld => ?_)
          clear hK K
          (try simp only [Act.put, List.setIfInBounds_toArray, List.set_cons_zero, List.set_cons_succ])
          refine wpAnyH_take (i := 11) (oi := Oper.mk (some 66) _ _ _ _ _) (v := ?_) rfl (by decide +kernel) (by decide +kernel) (by decide +kernel) (fun _ _ _ h => h) (Or.inl ⟨by rfl, ?_⟩) (by assumption) ?_
          rotate_left
          ·
           (intro w hSw; (try dsimp only at hSw); go_simp <;> (try with_reducible rfl))
          (try simp only [Act.put, List.setIfInBounds_toArray, List.set_cons_zero, List.set_cons_succ])
          refine wpAnyH_take (i := 12) (oi := Oper.mk (some 67) _ _ _ _ _) (v := ?_) rfl (by decide +kernel) (by decide +kernel) (by decide +kernel) (fun _ _ _ h => h) (Or.inl ⟨by rfl, ?_⟩) (by assumption) ?_
          rotate_left
          ·
           (intro w hSw; (try dsimp only at hSw); go_simp <;> (try with_reducible rfl))
          (try simp only [Act.put, List.setIfInBounds_toArray, List.set_cons_zero, List.set_cons_succ])
          refine wpAnyH_take (i := 13) (oi := Oper.mk (some 68) _ _ _ _ _) (v := ?_) rfl (by decide +kernel) (by decide +kernel) (by decide +kernel) (fun _ _ _ h => h) (Or.inl ⟨by rfl, ?_⟩) (by assumption) ?_
          rotate_left
          ·
           (intro w hSw; (try dsimp only at hSw); go_simp <;> (try with_reducible rfl))
          (try simp only [Act.put, List.setIfInBounds_toArray, List.set_cons_zero, List.set_cons_succ])
          refine wpAnyH_take (i := 14) (oi := Oper.mk (some 69) _ _ _ _ _) (v := ?_) rfl (by decide +kernel) (by decide +kernel) (by decide +kernel) (fun _ _ _ h => h) (Or.inl ⟨by rfl, ?_⟩) (by assumption) ?_
          rotate_left
          ·
           (intro w hSw; (try dsimp only at hSw); go_simp <;> (try with_reducible rfl))
          (try simp only [Act.put, List.setIfInBounds_toArray, List.set_cons_zero, List.set_cons_succ])
          refine wpAnyH_take (i := 15) (oi := Oper.mk (some 70) _ _ _ _ _) (v := ?_) rfl (by decide +kernel) (by decide +kernel) (by decide +kernel) (fun _ _ _ h => h) (Or.inl ⟨by rfl, ?_⟩) (by assumption) ?_
          rotate_left
          ·
           (intro w hSw; (try dsimp only at hSw); go_simp <;> (try with_reducible rfl))
          (try simp only [Act.put, List.setIfInBounds_toArray, List.set_cons_zero, List.set_cons_succ])
          refine wpAnyH_take (i := 16) (oi := Oper.mk (some 71) _ _ _ _ _) (v := ?_) rfl (by decide +kernel) (by decide +kernel) (by decide +kernel) (fun _ _ _ h => h) (Or.inl ⟨by rfl, ?_⟩) (by assumption) ?_
          rotate_left
          ·
           (intro w hSw; (try dsimp only at hSw); go_simp <;> (try with_reducible rfl))
          (try simp only [Act.put, List.setIfInBounds_toArray, List.set_cons_zero, List.set_cons_succ])
          refine wpAnyH_take (i := 17) (oi := Oper.mk (some 72) _ _ _ _ _) (v := ?_) rfl (by decide +kernel) (by decide +kernel) (by decide +kernel) (fun _ _ _ h => h) (Or.inl ⟨by rfl, ?_⟩) (by assumption) ?_
          rotate_left
          ·
           (intro w hSw; (try dsimp only at hSw); go_simp <;> (try with_reducible rfl))
          (try simp only [Act.put, List.setIfInBounds_toArray, List.set_cons_zero, List.set_cons_succ])
          refine wpAnyH_take (i := 18) (oi := Oper.mk (some 73) _ _ _ _ _) (v := undef) rfl (by decide +kernel) (by decide +kernel) (by decide +kernel) (fun _ _ _ h => h) (Or.inr ⟨by rfl, rfl⟩) (by assumption) ?_
          (try simp only [Act.put, List.setIfInBounds_toArray, List.set_cons_zero, List.set_cons_succ])
          refine wpAnyH_take (i := 19) (oi := Oper.mk (some 74) _ _ _ _ _) (v := undef) rfl (by decide +kernel) (by decide +kernel) (by decide +kernel) (fun _ _ _ h => h) (Or.inr ⟨by rfl, rfl⟩) (by assumption) ?_
          (try simp only [Act.put, List.setIfInBounds_toArray, List.set_cons_zero, List.set_cons_succ])
          refine wpAnyH_take (i := 20) (oi := Oper.mk (some 75) _ _ _ _ _) (v := undef) rfl (by decide +kernel) (by decide +kernel) (by decide +kernel) (fun _ _ _ h => h) (Or.inr ⟨by rfl, rfl⟩) (by assumption) ?_
          (try simp only [Act.put, List.setIfInBounds_toArray, List.set_cons_zero, List.set_cons_succ])
          refine wpAnyH_take (i := 21) (oi := Oper.mk (some 76) _ _ _ _ _) (v := undef) rfl (by decide +kernel) (by decide +kernel) (by decide +kernel) (fun _ _ _ h => h) (Or.inr ⟨by rfl, rfl⟩) (by assumption) ?_
          (try simp only [Act.put, List.setIfInBounds_toArray, List.set_cons_zero, List.set_cons_succ])
          refine wpAnyH_take (i := 22) (oi := Oper.mk (some 77) _ _ _ _ _) (v := undef) rfl (by decide +kernel) (by decide +kernel) (by decide +kernel) (fun _ _ _ h => h) (Or.inr ⟨by rfl, rfl⟩) (by assumption) ?_
          (try simp only [Act.put, List.setIfInBounds_toArray, List.set_cons_zero, List.set_cons_succ])
          refine wpAnyH_take (i := 23) (oi := Oper.mk (some 78) _ _ _ _ _) (v := undef) rfl (by decide +kernel) (by decide +kernel) (by decide +kernel) (fun _ _ _ h => h) (Or.inr ⟨by rfl, rfl⟩) (by assumption) ?_
          (try simp only [Act.put, List.setIfInBounds_toArray, List.set_cons_zero, List.set_cons_succ])
          refine wpAnyH_take (i := 24) (oi := Oper.mk (some 79) _ _ _ _ _) (v := undef) rfl (by decide +kernel) (by decide +kernel) (by decide +kernel) (fun _ _ _ h => h) (Or.inr ⟨by rfl, rfl⟩) (by assumption) ?_
          (try simp only [Act.put, List.setIfInBounds_toArray, List.set_cons_zero, List.set_cons_succ])
          refine wpAnyH_take (i := 25) (oi := Oper.mk (some 80) _ _ _ _ _) (v := undef) rfl (by decide +kernel) (by decide +kernel) (by decide +kernel) (fun _ _ _ h => h) (Or.inr ⟨by rfl, rfl⟩) (by assumption) ?_
          (try simp only [Act.put, List.setIfInBounds_toArray, List.set_cons_zero, List.set_cons_succ])
          refine wpAnyH_take (i := 26) (oi := Oper.mk (some 81) _ _ _ _ _) (v := undef) rfl (by decide +kernel) (by decide +kernel) (by decide +kernel) (fun _ _ _ h => h) (Or.inr ⟨by rfl, rfl⟩) (by assumption) ?_
          (try simp only [Act.put, List.setIfInBounds_toArray, List.set_cons_zero, List.set_cons_succ])
          refine wpAnyH_take (i := 27) (oi := Oper.mk (some 82) _ _ _ _ _) (v := undef) rfl (by decide +kernel) (by decide +kernel) (by decide +kernel) (fun _ _ _ h => h) (Or.inr ⟨by rfl, rfl⟩) (by assumption) ?_
          (try simp only [Act.put, List.setIfInBounds_toArray, List.set_cons_zero, List.set_cons_succ])
          refine wpAnyH_take (i := 28) (oi := Oper.mk (some 83) _ _ _ _ _) (v := undef) rfl (by decide +kernel) (by decide +kernel) (by decide +kernel) (fun _ _ _ h => h) (Or.inr ⟨by rfl, rfl⟩) (by assumption) ?_
          (try simp only [Act.put, List.setIfInBounds_toArray, List.set_cons_zero, List.set_cons_succ])
          refine wpAnyH_take (i := 29) (oi := Oper.mk (some 84) _ _ _ _ _) (v := undef) rfl (by decide +kernel) (by decide +kernel) (by decide +kernel) (fun _ _ _ h => h) (Or.inr ⟨by rfl, rfl⟩) (by assumption) ?_
          (try simp only [Act.put, List.setIfInBounds_toArray, List.set_cons_zero, List.set_cons_succ])
          refine wpAnyH_take (i := 30) (oi := Oper.mk (some 85) _ _ _ _ _) (v := undef) rfl (by decide +kernel) (by decide +kernel) (by decide +kernel) (fun _ _ _ h => h) (Or.inr ⟨by rfl, rfl⟩) (by assumption) ?_
          (try simp only [Act.put, List.setIfInBounds_toArray, List.set_cons_zero, List.set_cons_succ])
          refine wpAnyH_take (i := 31) (oi := Oper.mk (some 86) _ _ _ _ _) (v := ?_) rfl (by decide +kernel) (by decide +kernel) (by decide +kernel) (fun _ _ _ h => h) (Or.inl ⟨by rfl, ?_⟩) (by assumption) ?_
          rotate_left
          ·
           (intro w hSw; (try dsimp only at hSw); go_simp <;> (try with_reducible rfl))
          (try simp only [Act.put, List.setIfInBounds_toArray, List.set_cons_zero, List.set_cons_succ])
          refine wpAnyH_take (i := 32) (oi := Oper.mk (some 87) _ _ _ _ _) (v := ?_) rfl (by decide +kernel) (by decide +kernel) (by decide +kernel) (fun _ _ _ h => h) (Or.inl ⟨by rfl, ?_⟩) (by assumption) ?_
          rotate_left
          ·
           (intro w hSw; (try dsimp only at hSw); go_simp <;> (try with_reducible rfl))
          (try simp only [Act.put, List.setIfInBounds_toArray, List.set_cons_zero, List.set_cons_succ])
          refine wpAnyH_done (by decide +kernel) ?_ _
          refine NoPanic.normal ?_
          (first | go_meet | (show Exit.then _ _ Exit.normal _ _; go_wp2; go_meet))
          exact ⟨rfl, H3.out⟩
        case rest => as_aux_lemma =>
         obtain ⟨rfl, hB1⟩ := hcut
         obtain ⟨R, hR⟩ : ∃ R, R = wc := ⟨_, rfl⟩
         subst hR
         have HR1 : Hid (Below S.heap.size S R) := hB1
         clear hB1
         go_upto_region 17 with fail
         go_cut [120] (fun s120 wx => s120 = .bool false ∧ Below R.heap.size R wx)
         case first => as_aux_lemma =>
          rcases HS.out.2.1.2 with ⟨hv, hr, hr2⟩ | ⟨hv, ⟨hn, ho, hq, hl1, hc1, hm1, hk1⟩, hn2, ho2, hq2, hl2, hc2, hm2, hk2⟩
          ·
           subst hv
           have HR : Hid (RatAt R nX oX lX cX pX mX kX (vLo p b1 b2) ∧ RatAt R nY oY lY cY pY mY kY (vHi p b1 b2)) := ⟨hr.later HR1.out, hr2.later HR1.out⟩
           have HG : Hid (GP X ao la ca 3 p ∧ (RatAt X n5 o5 l5 c5 p5 m5 k5 b1 ∧ RatAt X n6 o6 l6 c6 p6 m6 k6 b2) ∧ Sz b1 2 ∧ Sz b2 2 ∧ cmpQ b1 b2 ≤ 0 ∧ p.length ≤ 11) := by
            rcases HEA.out.2 with ⟨_, h⟩ | ⟨h, _⟩
            ·
             exact h
            ·
             exact absurd h (by decide)
           clear hr hr2
           have HZ2 : Hid (Sz (vLo p b1 b2) 100000 ∧ Sz (vHi p b1 b2) 100000) := v_sz0 HG.out.2.2.1 HG.out.2.2.2.1 HG.out.1.lims HG.out.2.2.2.2.2
           refine wp_region_noPanic ?_
           refine wp_region_held_drew (S := fun w' => (w'.cell? ⟨r9, 0, none⟩ = some (.bool nX) ∧ w'.cell? ⟨r9, 1, none⟩ = some (.slice oX lX cX) ∧ w'.cell? ⟨r9, 2, none⟩ = some (.slice pX mX kX) ∧ w'.cell? ⟨r9, 3, none⟩ = some (.bool nY) ∧ w'.cell? ⟨r9, 4, none⟩ = some (.slice oY lY cY) ∧ w'.cell? ⟨r9, 5, none⟩ = some (.slice pY mY kY) ∧ w'.cell? ⟨wo.heap.size, 0, none⟩ = some (.slice ao la ca) ∧ w'.cell? ⟨wo.heap.size, 7, none⟩ = some (.bool n5) ∧ w'.cell? ⟨wo.heap.size, 8, none⟩ = some (.slice o5 l5 c5) ∧ w'.cell? ⟨wo.heap.size, 9, none⟩ = some (.slice p5 m5 k5) ∧ w'.cell? ⟨wo.heap.size, 10, none⟩ = some (.bool n6) ∧ w'.cell? ⟨wo.heap.size, 11, none⟩ = some (.slice o6 l6 c6) ∧ w'.cell? ⟨wo.heap.size, 12, none⟩ = some (.slice p6 m6 k6))) (by kernel_rfl) (by (try dsimp only); exact (show _ from ⟨(HS.out.1 _ (bnext HR1.out ((Below.refl _ _).drew))).2.1 0 _ rfl, (HS.out.1 _ (bnext HR1.out ((Below.refl _ _).drew))).2.1 1 _ rfl, (HS.out.1 _ (bnext HR1.out ((Below.refl _ _).drew))).2.1 2 _ rfl, (HS.out.1 _ (bnext HR1.out ((Below.refl _ _).drew))).2.1 3 _ rfl, (HS.out.1 _ (bnext HR1.out ((Below.refl _ _).drew))).2.1 4 _ rfl, (HS.out.1 _ (bnext HR1.out ((Below.refl _ _).drew))).2.1 5 _ rfl, HCL.out _ (bnext HS.out.2.2 (bnext HR1.out ((Below.refl _ _).drew))) 0 _ rfl, HCL.out _ (bnext HS.out.2.2 (bnext HR1.out ((Below.refl _ _).drew))) 7 _ rfl, HCL.out _ (bnext HS.out.2.2 (bnext HR1.out ((Below.refl _ _).drew))) 8 _ rfl, HCL.out _ (bnext HS.out.2.2 (bnext HR1.out ((Below.refl _ _).drew))) 9 _ rfl, HCL.out _ (bnext HS.out.2.2 (bnext HR1.out ((Below.refl _ _).drew))) 10 _ rfl, HCL.out _ (bnext HS.out.2.2 (bnext HR1.out ((Below.refl _ _).drew))) 11 _ rfl, HCL.out _ (bnext HS.out.2.2 (bnext HR1.out ((Below.refl _ _).drew))) 12 _ rfl⟩)) (fun hHeld => ?_)
           refine wpAnyH_take (i := 0) (oi := Oper.mk (some 88) _ _ _ _ _) (v := ?_) rfl (by decide +kernel) (by decide +kernel) (by decide +kernel) (fun _ _ _ h => h) (Or.inl ⟨by rfl, ?_⟩) (by assumption) ?_
           rotate_left
           ·
            (intro w hSw; (try dsimp only at hSw); go_simp <;> (try with_reducible rfl))
           (try simp only [Act.put, List.setIfInBounds_toArray, List.set_cons_zero, List.set_cons_succ])
           refine wpAnyH_take (i := 1) (oi := Oper.mk (some 89) _ _ _ _ _) (v := ?_) rfl (by decide +kernel) (by decide +kernel) (by decide +kernel) (fun _ _ _ h => h) (Or.inl ⟨by rfl, ?_⟩) (by assumption) ?_
           rotate_left
           ·
            (intro w hSw; (try dsimp only at hSw); go_simp <;> (try with_reducible rfl))
           (try simp only [Act.put, List.setIfInBounds_toArray, List.set_cons_zero, List.set_cons_succ])
           refine wpAnyH_take (i := 2) (oi := Oper.mk (some 90) _ _ _ _ _) (v := ?_) rfl (by decide +kernel) (by decide +kernel) (by decide +kernel) (fun _ _ _ h => h) (Or.inl ⟨by rfl, ?_⟩) (by assumption) ?_
           rotate_left
           ·
            (intro w hSw; (try dsimp only at hSw); go_simp <;> (try with_reducible rfl))
           (try simp only [Act.put, List.setIfInBounds_toArray, List.set_cons_zero, List.set_cons_succ])
           refine wpAnyH_take (i := 3) (oi := Oper.mk (some 91) _ _ _ _ _) (v := undef) rfl (by decide +kernel) (by decide +kernel) (by decide +kernel) (fun _ _ _ h => h) (Or.inr ⟨by rfl, rfl⟩) (by assumption) ?_
           (try simp only [Act.put, List.setIfInBounds_toArray, List.set_cons_zero, List.set_cons_succ])
           refine wpAnyH_take (i := 4) (oi := Oper.mk (some 92) _ _ _ _ _) (v := undef) rfl (by decide +kernel) (by decide +kernel) (by decide +kernel) (fun _ _ _ h => h) (Or.inr ⟨by rfl, rfl⟩) (by assumption) ?_
           (try simp only [Act.put, List.setIfInBounds_toArray, List.set_cons_zero, List.set_cons_succ])
           refine wpAnyH_take (i := 5) (oi := Oper.mk (some 93) _ _ _ _ _) (v := undef) rfl (by decide +kernel) (by decide +kernel) (by decide +kernel) (fun _ _ _ h => h) (Or.inr ⟨by rfl, rfl⟩) (by assumption) ?_
           (try simp only [Act.put, List.setIfInBounds_toArray, List.set_cons_zero, List.set_cons_succ])
           refine wpAnyH_take (i := 6) (oi := Oper.mk (some 94) _ _ _ _ _) (v := undef) rfl (by decide +kernel) (by decide +kernel) (by decide +kernel) (fun _ _ _ h => h) (Or.inr ⟨by rfl, rfl⟩) (by assumption) ?_
           (try simp only [Act.put, List.setIfInBounds_toArray, List.set_cons_zero, List.set_cons_succ])
           refine wpAnyH_take (i := 7) (oi := Oper.mk (some 95) _ _ _ _ _) (v := undef) rfl (by decide +kernel) (by decide +kernel) (by decide +kernel) (fun _ _ _ h => h) (Or.inr ⟨by rfl, rfl⟩) (by assumption) ?_
           (try simp only [Act.put, List.setIfInBounds_toArray, List.set_cons_zero, List.set_cons_succ])
           refine wpAnyH_take (i := 8) (oi := Oper.mk (some 96) _ _ _ _ _) (v := undef) rfl (by decide +kernel) (by decide +kernel) (by decide +kernel) (fun _ _ _ h => h) (Or.inr ⟨by rfl, rfl⟩) (by assumption) ?_
           (try simp only [Act.put, List.setIfInBounds_toArray, List.set_cons_zero, List.set_cons_succ])
           refine wpAnyH_take (i := 9) (oi := Oper.mk (some 97) _ _ _ _ _) (v := undef) rfl (by decide +kernel) (by decide +kernel) (by decide +kernel) (fun _ _ _ h => h) (Or.inr ⟨by rfl, rfl⟩) (by assumption) ?_
           (try simp only [Act.put, List.setIfInBounds_toArray, List.set_cons_zero, List.set_cons_succ])
           refine wpAnyH_take (i := 10) (oi := Oper.mk (some 98) _ _ _ _ _) (v := undef) rfl (by decide +kernel) (by decide +kernel) (by decide +kernel) (fun _ _ _ h => h) (Or.inr ⟨by rfl, rfl⟩) (by assumption) ?_
           (try simp only [Act.put, List.setIfInBounds_toArray, List.set_cons_zero, List.set_cons_succ])
           refine wpAnyH_take (i := 11) (oi := Oper.mk (some 99) _ _ _ _ _) (v := undef) rfl (by decide +kernel) (by decide +kernel) (by decide +kernel) (fun _ _ _ h => h) (Or.inr ⟨by rfl, rfl⟩) (by assumption) ?_
           (try simp only [Act.put, List.setIfInBounds_toArray, List.set_cons_zero, List.set_cons_succ])
           refine wpAnyH_take (i := 12) (oi := Oper.mk (some 100) _ _ _ _ _) (v := undef) rfl (by decide +kernel) (by decide +kernel) (by decide +kernel) (fun _ _ _ h => h) (Or.inr ⟨by rfl, rfl⟩) (by assumption) ?_
           (try simp only [Act.put, List.setIfInBounds_toArray, List.set_cons_zero, List.set_cons_succ])
           refine wpAnyH_take (i := 13) (oi := Oper.mk (some 101) _ _ _ _ _) (v := ?_) rfl (by decide +kernel) (by decide +kernel) (by decide +kernel) (fun _ _ _ h => h) (Or.inl ⟨by rfl, ?_⟩) (by assumption) ?_
           rotate_left
           ·
            (intro w hSw; (try dsimp only at hSw); go_simp <;> (try with_reducible rfl))
           (try simp only [Act.put, List.setIfInBounds_toArray, List.set_cons_zero, List.set_cons_succ])
           refine wpAnyH_take (i := 14) (oi := Oper.mk (some 102) _ _ _ _ _) (v := ?_) rfl (by decide +kernel) (by decide +kernel) (by decide +kernel) (fun _ _ _ h => h) (Or.inl ⟨by rfl, ?_⟩) (by assumption) ?_
           rotate_left
           ·
            (intro w hSw; (try dsimp only at hSw); go_simp <;> (try with_reducible rfl))
           (try simp only [Act.put, List.setIfInBounds_toArray, List.set_cons_zero, List.set_cons_succ])
           refine wpAnyH_take (i := 15) (oi := Oper.mk (some 103) _ _ _ _ _) (v := ?_) rfl (by decide +kernel) (by decide +kernel) (by decide +kernel) (fun _ _ _ h => h) (Or.inl ⟨by rfl, ?_⟩) (by assumption) ?_
           rotate_left
           ·
            (intro w hSw; (try dsimp only at hSw); go_simp <;> (try with_reducible rfl))
           (try simp only [Act.put, List.setIfInBounds_toArray, List.set_cons_zero, List.set_cons_succ])
           refine wpAnyH_take (i := 16) (oi := Oper.mk (some 104) _ _ _ _ _) (v := ?_) rfl (by decide +kernel) (by decide +kernel) (by decide +kernel) (fun _ _ _ h => h) (Or.inl ⟨by rfl, ?_⟩) (by assumption) ?_
           rotate_left
           ·
            (intro w hSw; (try dsimp only at hSw); go_simp <;> (try with_reducible rfl))
           (try simp only [Act.put, List.setIfInBounds_toArray, List.set_cons_zero, List.set_cons_succ])
           refine wpAnyH_take (i := 17) (oi := Oper.mk (some 105) _ _ _ _ _) (v := ?_) rfl (by decide +kernel) (by decide +kernel) (by decide +kernel) (fun _ _ _ h => h) (Or.inl ⟨by rfl, ?_⟩) (by assumption) ?_
           rotate_left
           ·
            (intro w hSw; (try dsimp only at hSw); go_simp <;> (try with_reducible rfl))
           (try simp only [Act.put, List.setIfInBounds_toArray, List.set_cons_zero, List.set_cons_succ])
           refine wpAnyH_take (i := 18) (oi := Oper.mk (some 106) _ _ _ _ _) (v := ?_) rfl (by decide +kernel) (by decide +kernel) (by decide +kernel) (fun _ _ _ h => h) (Or.inl ⟨by rfl, ?_⟩) (by assumption) ?_
           rotate_left
           ·
            (intro w hSw; (try dsimp only at hSw); go_simp <;> (try with_reducible rfl))
           (try simp only [Act.put, List.setIfInBounds_toArray, List.set_cons_zero, List.set_cons_succ])
           refine wpAnyH_ready (rs := [19]) (by decide +kernel) (by simp) ?_
           refine AllReadyH.cons (o := Oper.mk (some 107) _ _ _ _ _) rfl (fun K hK => ?_) AllReadyH.nil
           go_simp
           (go_at_call 11; refine (num4_any 0 _).mono ?_; rintro e y1 ⟨rfl, hb⟩; have H1 : Hid (Below R.heap.size R y1) := bnext (Below.refl _ _).drew hb; clear hb)
           (try go_wp2_with fail)
           clear hHeld
           refine hK.out _ _ (by (try dsimp only); exact ⟨(HS.out.1 _ (bnext HR1.out (H1.out))).2.1 0 _ rfl, (HS.out.1 _ (bnext HR1.out (H1.out))).2.1 1 _ rfl, (HS.out.1 _ (bnext HR1.out (H1.out))).2.1 2 _ rfl, (HS.out.1 _ (bnext HR1.out (H1.out))).2.1 3 _ rfl, (HS.out.1 _ (bnext HR1.out (H1.out))).2.1 4 _ rfl, (HS.out.1 _ (bnext HR1.out (H1.out))).2.1 5 _ rfl, HCL.out _ (bnext HS.out.2.2 (bnext HR1.out (H1.out))) 0 _ rfl, HCL.out _ (bnext HS.out.2.2 (bnext HR1.out (H1.out))) 7 _ rfl, HCL.out _ (bnext HS.out.2.2 (bnext HR1.out (H1.out))) 8 _ rfl, HCL.out _ (bnext HS.out.2.2 (bnext HR1.out (H1.out))) 9 _ rfl, HCL.out _ (bnext HS.out.2.2 (bnext HR1.out (H1.out))) 10 _ rfl, HCL.out _ (bnext HS.out.2.2 (bnext HR1.out (H1.out))) 11 _ rfl, HCL.out _ (bnext HS.out.2.2 (bnext HR1.out (H1.out))) 12 _ rfl⟩) (fun hHeld => ?_)
           clear hK K
           (try simp only [Act.put, List.setIfInBounds_toArray, List.set_cons_zero, List.set_cons_succ])
           refine wpAnyH_take (i := 20) (oi := Oper.mk (some 108) _ _ _ _ _) (v := ?_) rfl (by decide +kernel) (by decide +kernel) (by decide +kernel) (fun _ _ _ h => h) (Or.inl ⟨by rfl, ?_⟩) (by assumption) ?_
           rotate_left
           ·
            (intro w hSw; (try dsimp only at hSw); go_simp <;> (try with_reducible rfl))
           (try simp only [Act.put, List.setIfInBounds_toArray, List.set_cons_zero, List.set_cons_succ])
           refine wpAnyH_take (i := 21) (oi := Oper.mk (some 109) _ _ _ _ _) (v := ?_) rfl (by decide +kernel) (by decide +kernel) (by decide +kernel) (fun _ _ _ h => h) (Or.inl ⟨by rfl, ?_⟩) (by assumption) ?_
           rotate_left
           ·
            (intro w hSw; (try dsimp only at hSw); go_simp <;> (try with_reducible rfl))
           (try simp only [Act.put, List.setIfInBounds_toArray, List.set_cons_zero, List.set_cons_succ])
           refine wpAnyH_take (i := 22) (oi := Oper.mk (some 110) _ _ _ _ _) (v := ?_) rfl (by decide +kernel) (by decide +kernel) (by decide +kernel) (fun _ _ _ h => h) (Or.inl ⟨by rfl, ?_⟩) (by assumption) ?_
           rotate_left
           ·
            (intro w hSw; (try dsimp only at hSw); go_simp <;> (try with_reducible rfl))
           (try simp only [Act.put, List.setIfInBounds_toArray, List.set_cons_zero, List.set_cons_succ])
           refine wpAnyH_take (i := 23) (oi := Oper.mk (some 111) _ _ _ _ _) (v := ?_) rfl (by decide +kernel) (by decide +kernel) (by decide +kernel) (fun _ _ _ h => h) (Or.inl ⟨by rfl, ?_⟩) (by assumption) ?_
           rotate_left
           ·
            (intro w hSw; (try dsimp only at hSw); go_simp <;> (try with_reducible rfl))
           (try simp only [Act.put, List.setIfInBounds_toArray, List.set_cons_zero, List.set_cons_succ])
           refine wpAnyH_take (i := 24) (oi := Oper.mk (some 112) _ _ _ _ _) (v := ?_) rfl (by decide +kernel) (by decide +kernel) (by decide +kernel) (fun _ _ _ h => h) (Or.inl ⟨by rfl, ?_⟩) (by assumption) ?_
           rotate_left
           ·
            (intro w hSw; (try dsimp only at hSw); go_simp <;> (try with_reducible rfl))
           (try simp only [Act.put, List.setIfInBounds_toArray, List.set_cons_zero, List.set_cons_succ])
           refine wpAnyH_take (i := 25) (oi := Oper.mk (some 113) _ _ _ _ _) (v := ?_) rfl (by decide +kernel) (by decide +kernel) (by decide +kernel) (fun _ _ _ h => h) (Or.inl ⟨by rfl, ?_⟩) (by assumption) ?_
           rotate_left
           ·
            (intro w hSw; (try dsimp only at hSw); go_simp <;> (try with_reducible rfl))
           (try simp only [Act.put, List.setIfInBounds_toArray, List.set_cons_zero, List.set_cons_succ])
           refine wpAnyH_take (i := 26) (oi := Oper.mk (some 114) _ _ _ _ _) (v := ?_) rfl (by decide +kernel) (by decide +kernel) (by decide +kernel) (fun _ _ _ h => h) (Or.inl ⟨by rfl, ?_⟩) (by assumption) ?_
           rotate_left
           ·
            (intro w hSw; (try dsimp only at hSw); go_simp <;> (try with_reducible rfl))
           (try simp only [Act.put, List.setIfInBounds_toArray, List.set_cons_zero, List.set_cons_succ])
           refine wpAnyH_ready (rs := [27]) (by decide +kernel) (by simp) ?_
           refine AllReadyH.cons (o := Oper.mk (some 115) _ _ _ _ _) rfl (fun K hK => ?_) AllReadyH.nil
           go_simp
           (go_at_call 15; refine (pevspan_any ao la ca p n5 n6 o5 p5 o6 p6 l5 c5 m5 k5 l6 c6 m6 k6 b1 b2 _ (HG.out.1.later (bnext HS.out.2.2 (bnext HR1.out H1.out))).at' (HG.out.2.1.1.later (bnext HS.out.2.2 (bnext HR1.out H1.out))) (HG.out.2.1.2.later (bnext HS.out.2.2 (bnext HR1.out H1.out))) HG.out.2.2.1 HG.out.2.2.2.1 (by have h1 := HG.out.1.at'.hlen; have h2 := HG.out.2.2.2.2.2; omega) HG.out.1.lims).mono ?_; rintro e y2 ⟨n9, o9, l9, c9, p9, m9, k9, n8, o8, l8, c8, p8, m8, k8, rfl, h9, h8, hb⟩; have H2 : Hid ((RatAt y2 n9 o9 l9 c9 p9 m9 k9 (vLo p b1 b2) ∧ RatAt y2 n8 o8 l8 c8 p8 m8 k8 (vHi p b1 b2)) ∧ Below R.heap.size R y2) := ⟨⟨h9, h8⟩, bnext H1.out hb⟩; clear h9 h8 hb)
           (try go_wp2_with fail)
           clear hHeld
           refine hK.out _ _ (by (try dsimp only); exact ⟨(HS.out.1 _ (bnext HR1.out (H2.out.2))).2.1 0 _ rfl, (HS.out.1 _ (bnext HR1.out (H2.out.2))).2.1 1 _ rfl, (HS.out.1 _ (bnext HR1.out (H2.out.2))).2.1 2 _ rfl, (HS.out.1 _ (bnext HR1.out (H2.out.2))).2.1 3 _ rfl, (HS.out.1 _ (bnext HR1.out (H2.out.2))).2.1 4 _ rfl, (HS.out.1 _ (bnext HR1.out (H2.out.2))).2.1 5 _ rfl, HCL.out _ (bnext HS.out.2.2 (bnext HR1.out (H2.out.2))) 0 _ rfl, HCL.out _ (bnext HS.out.2.2 (bnext HR1.out (H2.out.2))) 7 _ rfl, HCL.out _ (bnext HS.out.2.2 (bnext HR1.out (H2.out.2))) 8 _ rfl, HCL.out _ (bnext HS.out.2.2 (bnext HR1.out (H2.out.2))) 9 _ rfl, HCL.out _ (bnext HS.out.2.2 (bnext HR1.out (H2.out.2))) 10 _ rfl, HCL.out _ (bnext HS.out.2.2 (bnext HR1.out (H2.out.2))) 11 _ rfl, HCL.out _ (bnext HS.out.2.2 (bnext HR1.out (H2.out.2))) 12 _ rfl⟩) (fun hHeld => ?_)
           clear hK K
           (try simp only [Act.put, List.setIfInBounds_toArray, List.set_cons_zero, List.set_cons_succ])
           refine wpAnyH_ready (rs := [28]) (by decide +kernel) (by simp) ?_
           refine AllReadyH.cons (o := Oper.mk (some 116) _ _ _ _ _) rfl (fun K hK => ?_) AllReadyH.nil
           go_simp
           (go_at_call 14; refine (eqspan_same nX nY n9 n8 oX pX oY pY o9 p9 o8 p8 lX cX mX kX lY cY mY kY l9 c9 m9 k9 l8 c8 m8 k8 (vLo p b1 b2) (vHi p b1 b2) _ (HR.out.1.later H2.out.2) (HR.out.2.later H2.out.2) H2.out.1.1 H2.out.1.2 HZ2.out.1 HZ2.out.2).mono ?_; rintro e y3 ⟨rfl, hb⟩; have H3 : Hid (Below R.heap.size R y3) := bnext H2.out.2 hb; clear hb)
           (try go_wp2_with fail)
           clear hHeld
           refine hK.out _ _ (by (try dsimp only); exact ⟨(HS.out.1 _ (bnext HR1.out (H3.out))).2.1 0 _ rfl, (HS.out.1 _ (bnext HR1.out (H3.out))).2.1 1 _ rfl, (HS.out.1 _ (bnext HR1.out (H3.out))).2.1 2 _ rfl, (HS.out.1 _ (bnext HR1.out (H3.out))).2.1 3 _ rfl, (HS.out.1 _ (bnext HR1.out (H3.out))).2.1 4 _ rfl, (HS.out.1 _ (bnext HR1.out (H3.out))).2.1 5 _ rfl, HCL.out _ (bnext HS.out.2.2 (bnext HR1.out (H3.out))) 0 _ rfl, HCL.out _ (bnext HS.out.2.2 (bnext HR1.out (H3.out))) 7 _ rfl, HCL.out _ (bnext HS.out.2.2 (bnext HR1.out (H3.out))) 8 _ rfl, HCL.out _ (bnext HS.out.2.2 (bnext HR1.out (H3.out))) 9 _ rfl, HCL.out _ (bnext HS.out.2.2 (bnext HR1.out (H3.out))) 10 _ rfl, HCL.out _ (bnext HS.out.2.2 (bnext HR1.out (H3.out))) 11 _ rfl, HCL.out _ (bnext HS.out.2.2 (bnext HR1.out (H3.out))) 12 _ rfl⟩) (fun hHeld => ?_)
           clear hK K
           (try simp only [Act.put, List.setIfInBounds_toArray, List.set_cons_zero, List.set_cons_succ])
           refine wpAnyH_take (i := 29) (oi := Oper.mk (some 117) _ _ _ _ _) (v := ?_) rfl (by decide +kernel) (by decide +kernel) (by decide +kernel) (fun _ _ _ h => h) (Or.inl ⟨by rfl, ?_⟩) (by assumption) ?_
           rotate_left
           ·
            (intro w hSw; (try dsimp only at hSw); go_simp <;> (try with_reducible rfl))
           (try simp only [Act.put, List.setIfInBounds_toArray, List.set_cons_zero, List.set_cons_succ])
           refine wpAnyH_take (i := 30) (oi := Oper.mk (some 118) _ _ _ _ _) (v := ?_) rfl (by decide +kernel) (by decide +kernel) (by decide +kernel) (fun _ _ _ h => h) (Or.inl ⟨by rfl, ?_⟩) (by assumption) ?_
           rotate_left
           ·
            (intro w hSw; (try dsimp only at hSw); go_simp <;> (try with_reducible rfl))
           (try simp only [Act.put, List.setIfInBounds_toArray, List.set_cons_zero, List.set_cons_succ])
           refine wpAnyH_take (i := 31) (oi := Oper.mk (some 119) _ _ _ _ _) (v := ?_) rfl (by decide +kernel) (by decide +kernel) (by decide +kernel) (fun _ _ _ h => h) (Or.inl ⟨by rfl, ?_⟩) (by assumption) ?_
           rotate_left
           ·
            (intro w hSw; (try dsimp only at hSw); go_simp <;> (try with_reducible rfl))
           (try simp only [Act.put, List.setIfInBounds_toArray, List.set_cons_zero, List.set_cons_succ])
           refine wpAnyH_take (i := 32) (oi := Oper.mk (some 120) _ _ _ _ _) (v := ?_) rfl (by decide +kernel) (by decide +kernel) (by decide +kernel) (fun _ _ _ h => h) (Or.inl ⟨by rfl, ?_⟩) (by assumption) ?_
           rotate_left
           ·
            (intro w hSw; (try dsimp only at hSw); go_simp <;> (try with_reducible rfl))
           (try simp only [Act.put, List.setIfInBounds_toArray, List.set_cons_zero, List.set_cons_succ])
           refine wpAnyH_done (by decide +kernel) ?_ _
           refine NoPanic.normal ?_
           (first | go_meet | (show Exit.then _ _ Exit.normal _ _; go_wp2; go_meet))
           exact ⟨rfl, H3.out⟩
          ·
           subst hv
           subst hn ho hq hl1 hc1 hm1 hk1 hn2 ho2 hq2 hl2 hc2 hm2 hk2
           refine wp_region_noPanic ?_
           refine wp_region_held_drew (S := fun w' => (w'.cell? ⟨r9, 0, none⟩ = some (.bool false) ∧ w'.cell? ⟨r9, 1, none⟩ = some (.slice none 0 0) ∧ w'.cell? ⟨r9, 2, none⟩ = some (.slice none 0 0) ∧ w'.cell? ⟨r9, 3, none⟩ = some (.bool false) ∧ w'.cell? ⟨r9, 4, none⟩ = some (.slice none 0 0) ∧ w'.cell? ⟨r9, 5, none⟩ = some (.slice none 0 0))) (by kernel_rfl) (by (try dsimp only); exact (show _ from ⟨(HS.out.1 _ (bnext HR1.out ((Below.refl _ _).drew))).2.1 0 _ rfl, (HS.out.1 _ (bnext HR1.out ((Below.refl _ _).drew))).2.1 1 _ rfl, (HS.out.1 _ (bnext HR1.out ((Below.refl _ _).drew))).2.1 2 _ rfl, (HS.out.1 _ (bnext HR1.out ((Below.refl _ _).drew))).2.1 3 _ rfl, (HS.out.1 _ (bnext HR1.out ((Below.refl _ _).drew))).2.1 4 _ rfl, (HS.out.1 _ (bnext HR1.out ((Below.refl _ _).drew))).2.1 5 _ rfl⟩)) (fun hHeld => ?_)
           refine wpAnyH_take (i := 0) (oi := Oper.mk (some 88) _ _ _ _ _) (v := ?_) rfl (by decide +kernel) (by decide +kernel) (by decide +kernel) (fun _ _ _ h => h) (Or.inl ⟨by rfl, ?_⟩) (by assumption) ?_
           rotate_left
           ·
            (intro w hSw; (try dsimp only at hSw); go_simp <;> (try with_reducible rfl))
           (try simp only [Act.put, List.setIfInBounds_toArray, List.set_cons_zero, List.set_cons_succ])
           refine wpAnyH_take (i := 1) (oi := Oper.mk (some 89) _ _ _ _ _) (v := ?_) rfl (by decide +kernel) (by decide +kernel) (by decide +kernel) (fun _ _ _ h => h) (Or.inl ⟨by rfl, ?_⟩) (by assumption) ?_
           rotate_left
           ·
            (intro w hSw; (try dsimp only at hSw); go_simp <;> (try with_reducible rfl))
           (try simp only [Act.put, List.setIfInBounds_toArray, List.set_cons_zero, List.set_cons_succ])
           refine wpAnyH_take (i := 2) (oi := Oper.mk (some 90) _ _ _ _ _) (v := ?_) rfl (by decide +kernel) (by decide +kernel) (by decide +kernel) (fun _ _ _ h => h) (Or.inl ⟨by rfl, ?_⟩) (by assumption) ?_
           rotate_left
           ·
            (intro w hSw; (try dsimp only at hSw); go_simp <;> (try with_reducible rfl))
           (try simp only [Act.put, List.setIfInBounds_toArray, List.set_cons_zero, List.set_cons_succ])
           refine wpAnyH_take (i := 3) (oi := Oper.mk (some 91) _ _ _ _ _) (v := ?_) rfl (by decide +kernel) (by decide +kernel) (by decide +kernel) (fun _ _ _ h => h) (Or.inl ⟨by rfl, ?_⟩) (by assumption) ?_
           rotate_left
           ·
            (intro w hSw; (try dsimp only at hSw); go_simp <;> (try with_reducible rfl))
           (try simp only [Act.put, List.setIfInBounds_toArray, List.set_cons_zero, List.set_cons_succ])
           refine wpAnyH_take (i := 5) (oi := Oper.mk (some 93) _ _ _ _ _) (v := ?_) rfl (by decide +kernel) (by decide +kernel) (by decide +kernel) (fun _ _ _ h => h) (Or.inl ⟨by rfl, ?_⟩) (by assumption) ?_
           rotate_left
           ·
            (intro w hSw; (try dsimp only at hSw); go_simp <;> (try with_reducible rfl))
           (try simp only [Act.put, List.setIfInBounds_toArray, List.set_cons_zero, List.set_cons_succ])
           refine wpAnyH_ready (rs := [4]) (by decide +kernel) (by simp) ?_
           refine AllReadyH.cons (o := Oper.mk (some 92) _ _ _ _ _) rfl (fun K hK => ?_) AllReadyH.nil
           go_simp
           (go_at_call 11; refine (num4_any 50 _).mono ?_; rintro e y1 ⟨rfl, hb⟩; have H1 : Hid (Below R.heap.size R y1) := bnext (Below.refl _ _).drew hb; clear hb)
           (try go_wp2_with fail)
           clear hHeld
           refine hK.out _ _ (by (try dsimp only); exact ⟨(HS.out.1 _ (bnext HR1.out (H1.out))).2.1 0 _ rfl, (HS.out.1 _ (bnext HR1.out (H1.out))).2.1 1 _ rfl, (HS.out.1 _ (bnext HR1.out (H1.out))).2.1 2 _ rfl, (HS.out.1 _ (bnext HR1.out (H1.out))).2.1 3 _ rfl, (HS.out.1 _ (bnext HR1.out (H1.out))).2.1 4 _ rfl, (HS.out.1 _ (bnext HR1.out (H1.out))).2.1 5 _ rfl⟩) (fun hHeld => ?_)
           clear hK K
           (try simp only [Act.put, List.setIfInBounds_toArray, List.set_cons_zero, List.set_cons_succ])
           refine wpAnyH_take (i := 6) (oi := Oper.mk (some 94) _ _ _ _ _) (v := ?_) rfl (by decide +kernel) (by decide +kernel) (by decide +kernel) (fun _ _ _ h => h) (Or.inl ⟨by rfl, ?_⟩) (by assumption) ?_
           rotate_left
           ·
            (intro w hSw; (try dsimp only at hSw); go_simp <;> (try with_reducible rfl))
           (try simp only [Act.put, List.setIfInBounds_toArray, List.set_cons_zero, List.set_cons_succ])
           refine wpAnyH_take (i := 7) (oi := Oper.mk (some 95) _ _ _ _ _) (v := ?_) rfl (by decide +kernel) (by decide +kernel) (by decide +kernel) (fun _ _ _ h => h) (Or.inl ⟨by rfl, ?_⟩) (by assumption) ?_
           rotate_left
           ·
            (intro w hSw; (try dsimp only at hSw); go_simp <;> (try with_reducible rfl))
           (try simp only [Act.put, List.setIfInBounds_toArray, List.set_cons_zero, List.set_cons_succ])
           refine wpAnyH_take (i := 8) (oi := Oper.mk (some 96) _ _ _ _ _) (v := ?_) rfl (by decide +kernel) (by decide +kernel) (by decide +kernel) (fun _ _ _ h => h) (Or.inl ⟨by rfl, ?_⟩) (by assumption) ?_
           rotate_left
           ·
            (intro w hSw; (try dsimp only at hSw); go_simp <;> (try with_reducible rfl))
           (try simp only [Act.put, List.setIfInBounds_toArray, List.set_cons_zero, List.set_cons_succ])
           refine wpAnyH_take (i := 9) (oi := Oper.mk (some 97) _ _ _ _ _) (v := ?_) rfl (by decide +kernel) (by decide +kernel) (by decide +kernel) (fun _ _ _ h => h) (Or.inl ⟨by rfl, ?_⟩) (by assumption) ?_
           rotate_left
           ·
            (intro w hSw; (try dsimp only at hSw); go_simp <;> (try with_reducible rfl))
           (try simp only [Act.put, List.setIfInBounds_toArray, List.set_cons_zero, List.set_cons_succ])
           refine wpAnyH_ready (rs := [10]) (by decide +kernel) (by simp) ?_
           refine AllReadyH.cons (o := Oper.mk (some 98) _ _ _ _ _) rfl (fun K hK => ?_) AllReadyH.nil
           go_simp
           (go_at_call 14; refine (eqspan_rawP false false none none none none none none none none 0 0 0 0 0 0 0 0 0 0 0 0 0 0 0 0 [] [] [] [] _ ⟨RowAt.nilRow _ _, RowAt.nilRow _ _⟩ ⟨RowAt.nilRow _ _, RowAt.nilRow _ _⟩ ⟨RowAt.nilRow _ _, RowAt.nilRow _ _⟩ ⟨RowAt.nilRow _ _, RowAt.nilRow _ _⟩ (by omega) (by omega) (by omega) (by omega)).mono ?_; rintro e y3 ⟨rfl, hb⟩; have H3 : Hid (Below R.heap.size R y3) := bnext H1.out hb; clear hb)
           (try go_wp2_with fail)
           clear hHeld
           refine hK.out _ _ (by (try dsimp only); exact ⟨(HS.out.1 _ (bnext HR1.out (H3.out))).2.1 0 _ rfl, (HS.out.1 _ (bnext HR1.out (H3.out))).2.1 1 _ rfl, (HS.out.1 _ (bnext HR1.out (H3.out))).2.1 2 _ rfl, (HS.out.1 _ (bnext HR1.out (H3.out))).2.1 3 _ rfl, (HS.out.1 _ (bnext HR1.out (H3.out))).2.1 4 _ rfl, (HS.out.1 _ (bnext HR1.out (H3.out))).2.1 5 _ rfl⟩) (fun hHeld => ?_)
           clear hK K
           (try simp only [Act.put, List.setIfInBounds_toArray, List.set_cons_zero, List.set_cons_succ])
           refine wpAnyH_take (i := 11) (oi := Oper.mk (some 99) _ _ _ _ _) (v := ?_) rfl (by decide +kernel) (by decide +kernel) (by decide +kernel) (fun _ _ _ h => h) (Or.inl ⟨by rfl, ?_⟩) (by assumption) ?_
           rotate_left
           ·
            (intro w hSw; (try dsimp only at hSw); go_simp <;> (try with_reducible rfl))
           (try simp only [Act.put, List.setIfInBounds_toArray, List.set_cons_zero, List.set_cons_succ])
           refine wpAnyH_take (i := 12) (oi := Oper.mk (some 100) _ _ _ _ _) (v := ?_) rfl (by decide +kernel) (by decide +kernel) (by decide +kernel) (fun _ _ _ h => h) (Or.inl ⟨by rfl, ?_⟩) (by assumption) ?_
           rotate_left
           ·
            (intro w hSw; (try dsimp only at hSw); go_simp <;> (try with_reducible rfl))
           (try simp only [Act.put, List.setIfInBounds_toArray, List.set_cons_zero, List.set_cons_succ])
           refine wpAnyH_take (i := 13) (oi := Oper.mk (some 101) _ _ _ _ _) (v := ?_) rfl (by decide +kernel) (by decide +kernel) (by decide +kernel) (fun _ _ _ h => h) (Or.inl ⟨by rfl, ?_⟩) (by assumption) ?_
           rotate_left
           ·
            (intro w hSw; (try dsimp only at hSw); go_simp <;> (try with_reducible rfl))
           (try simp only [Act.put, List.setIfInBounds_toArray, List.set_cons_zero, List.set_cons_succ])
           refine wpAnyH_take (i := 14) (oi := Oper.mk (some 102) _ _ _ _ _) (v := ?_) rfl (by decide +kernel) (by decide +kernel) (by decide +kernel) (fun _ _ _ h => h) (Or.inl ⟨by rfl, ?_⟩) (by assumption) ?_
           rotate_left
           ·
            (intro w hSw; (try dsimp only at hSw); go_simp <;> (try with_reducible rfl))
           (try simp only [Act.put, List.setIfInBounds_toArray, List.set_cons_zero, List.set_cons_succ])
           refine wpAnyH_take (i := 15) (oi := Oper.mk (some 103) _ _ _ _ _) (v := ?_) rfl (by decide +kernel) (by decide +kernel) (by decide +kernel) (fun _ _ _ h => h) (Or.inl ⟨by rfl, ?_⟩) (by assumption) ?_
           rotate_left
           ·
            (intro w hSw; (try dsimp only at hSw); go_simp <;> (try with_reducible rfl))
           (try simp only [Act.put, List.setIfInBounds_toArray, List.set_cons_zero, List.set_cons_succ])
           refine wpAnyH_take (i := 16) (oi := Oper.mk (some 104) _ _ _ _ _) (v := ?_) rfl (by decide +kernel) (by decide +kernel) (by decide +kernel) (fun _ _ _ h => h) (Or.inl ⟨by rfl, ?_⟩) (by assumption) ?_
           rotate_left
           ·
            (intro w hSw; (try dsimp only at hSw); go_simp <;> (try with_reducible rfl))
           (try simp only [Act.put, List.setIfInBounds_toArray, List.set_cons_zero, List.set_cons_succ])
           refine wpAnyH_take (i := 17) (oi := Oper.mk (some 105) _ _ _ _ _) (v := ?_) rfl (by decide +kernel) (by decide +kernel) (by decide +kernel) (fun _ _ _ h => h) (Or.inl ⟨by rfl, ?_⟩) (by assumption) ?_
           rotate_left
           ·
            (intro w hSw; (try dsimp only at hSw); go_simp <;> (try with_reducible rfl))
           (try simp only [Act.put, List.setIfInBounds_toArray, List.set_cons_zero, List.set_cons_succ])
           refine wpAnyH_take (i := 18) (oi := Oper.mk (some 106) _ _ _ _ _) (v := undef) rfl (by decide +kernel) (by decide +kernel) (by decide +kernel) (fun _ _ _ h => h) (Or.inr ⟨by rfl, rfl⟩) (by assumption) ?_
           (try simp only [Act.put, List.setIfInBounds_toArray, List.set_cons_zero, List.set_cons_succ])
           refine wpAnyH_take (i := 19) (oi := Oper.mk (some 107) _ _ _ _ _) (v := undef) rfl (by decide +kernel) (by decide +kernel) (by decide +kernel) (fun _ _ _ h => h) (Or.inr ⟨by rfl, rfl⟩) (by assumption) ?_
           (try simp only [Act.put, List.setIfInBounds_toArray, List.set_cons_zero, List.set_cons_succ])
           refine wpAnyH_take (i := 20) (oi := Oper.mk (some 108) _ _ _ _ _) (v := undef) rfl (by decide +kernel) (by decide +kernel) (by decide +kernel) (fun _ _ _ h => h) (Or.inr ⟨by rfl, rfl⟩) (by assumption) ?_
           (try simp only [Act.put, List.setIfInBounds_toArray, List.set_cons_zero, List.set_cons_succ])
           refine wpAnyH_take (i := 21) (oi := Oper.mk (some 109) _ _ _ _ _) (v := undef) rfl (by decide +kernel) (by decide +kernel) (by decide +kernel) (fun _ _ _ h => h) (Or.inr ⟨by rfl, rfl⟩) (by assumption) ?_
           (try simp only [Act.put, List.setIfInBounds_toArray, List.set_cons_zero, List.set_cons_succ])
           refine wpAnyH_take (i := 22) (oi := Oper.mk (some 110) _ _ _ _ _) (v := undef) rfl (by decide +kernel) (by decide +kernel) (by decide +kernel) (fun _ _ _ h => h) (Or.inr ⟨by rfl, rfl⟩) (by assumption) ?_
           (try simp only [Act.put, List.setIfInBounds_toArray, List.set_cons_zero, List.set_cons_succ])
           refine wpAnyH_take (i := 23) (oi := Oper.mk (some 111) _ _ _ _ _) (v := undef) rfl (by decide +kernel) (by decide +kernel) (by decide +kernel) (fun _ _ _ h => h) (Or.inr ⟨by rfl, rfl⟩) (by assumption) ?_
           (try simp only [Act.put, List.setIfInBounds_toArray, List.set_cons_zero, List.set_cons_succ])
           refine wpAnyH_take (i := 24) (oi := Oper.mk (some 112) _ _ _ _ _) (v := undef) rfl (by decide +kernel) (by decide +kernel) (by decide +kernel) (fun _ _ _ h => h) (Or.inr ⟨by rfl, rfl⟩) (by assumption) ?_
           (try simp only [Act.put, List.setIfInBounds_toArray, List.set_cons_zero, List.set_cons_succ])
           refine wpAnyH_take (i := 25) (oi := Oper.mk (some 113) _ _ _ _ _) (v := undef) rfl (by decide +kernel) (by decide +kernel) (by decide +kernel) (fun _ _ _ h => h) (Or.inr ⟨by rfl, rfl⟩) (by assumption) ?_
           (try simp only [Act.put, List.setIfInBounds_toArray, List.set_cons_zero, List.set_cons_succ])
           refine wpAnyH_take (i := 26) (oi := Oper.mk (some 114) _ _ _ _ _) (v := undef) rfl (by decide +kernel) (by decide +kernel) (by decide +kernel) (fun _ _ _ h => h) (Or.inr ⟨by rfl, rfl⟩) (by assumption) ?_
           (try simp only [Act.put, List.setIfInBounds_toArray, List.set_cons_zero, List.set_cons_succ])
           refine wpAnyH_take (i := 27) (oi := Oper.mk (some 115) _ _ _ _ _) (v := undef) rfl (by decide +kernel) (by decide +kernel) (by decide +kernel) (fun _ _ _ h => h) (Or.inr ⟨by rfl, rfl⟩) (by assumption) ?_
           (try simp only [Act.put, List.setIfInBounds_toArray, List.set_cons_zero, List.set_cons_succ])
           refine wpAnyH_take (i := 28) (oi := Oper.mk (some 116) _ _ _ _ _) (v := undef) rfl (by decide +kernel) (by decide +kernel) (by decide +kernel) (fun _ _ _ h => h) (Or.inr ⟨by rfl, rfl⟩) (by assumption) ?_
           (try simp only [Act.put, List.setIfInBounds_toArray, List.set_cons_zero, List.set_cons_succ])
           refine wpAnyH_take (i := 29) (oi := Oper.mk (some 117) _ _ _ _ _) (v := undef) rfl (by decide +kernel) (by decide +kernel) (by decide +kernel) (fun _ _ _ h => h) (Or.inr ⟨by rfl, rfl⟩) (by assumption) ?_
           (try simp only [Act.put, List.setIfInBounds_toArray, List.set_cons_zero, List.set_cons_succ])
           refine wpAnyH_take (i := 30) (oi := Oper.mk (some 118) _ _ _ _ _) (v := undef) rfl (by decide +kernel) (by decide +kernel) (by decide +kernel) (fun _ _ _ h => h) (Or.inr ⟨by rfl, rfl⟩) (by assumption) ?_
           (try simp only [Act.put, List.setIfInBounds_toArray, List.set_cons_zero, List.set_cons_succ])
           refine wpAnyH_take (i := 31) (oi := Oper.mk (some 119) _ _ _ _ _) (v := ?_) rfl (by decide +kernel) (by decide +kernel) (by decide +kernel) (fun _ _ _ h => h) (Or.inl ⟨by rfl, ?_⟩) (by assumption) ?_
           rotate_left
           ·
            (intro w hSw; (try dsimp only at hSw); go_simp <;> (try with_reducible rfl))
           (try simp only [Act.put, List.setIfInBounds_toArray, List.set_cons_zero, List.set_cons_succ])
           refine wpAnyH_take (i := 32) (oi := Oper.mk (some 120) _ _ _ _ _) (v := ?_) rfl (by decide +kernel) (by decide +kernel) (by decide +kernel) (fun _ _ _ h => h) (Or.inl ⟨by rfl, ?_⟩) (by assumption) ?_
           rotate_left
           ·
            (intro w hSw; (try dsimp only at hSw); go_simp <;> (try with_reducible rfl))
           (try simp only [Act.put, List.setIfInBounds_toArray, List.set_cons_zero, List.set_cons_succ])
           refine wpAnyH_done (by decide +kernel) ?_ _
           refine NoPanic.normal ?_
           (first | go_meet | (show Exit.then _ _ Exit.normal _ _; go_wp2; go_meet))
           exact ⟨rfl, H3.out⟩
         case rest => as_aux_lemma =>
          obtain ⟨rfl, hB1⟩ := hcut
          go_wp2
          go_roundw
          case rel => exact ⟨k + 1, by omega, by go_num, bnext HXB.out.2 (bnext HS.out.2.2 (bnext HR1.out hB1))⟩
          case measure => simp [intOf]; omega
   ·
    have g2 : ¬ (k : Int) < 15 := by omega
    go_wp2_with (go_at_call 16; refine (wakes4_any _).mono ?_; rintro e w1 ⟨rfl, hb1⟩)
    go_ret
    exact ⟨rfl, bnext hbel hb1⟩
  ·
   have g1 : ¬ (k : Int) < (len : Int) := by omega
   go_wp2_with (go_at_call 16; refine (wakes4_any _).mono ?_; rintro e w1 ⟨rfl, hb1⟩)
   go_ret
   exact ⟨rfl, bnext hbel hb1⟩
end Go.Proofs.YthjkdnlbdhhmbaaGreatDoor
