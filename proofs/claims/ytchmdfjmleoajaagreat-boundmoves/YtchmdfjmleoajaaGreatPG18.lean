/-
  A pack of walks and facts: VD.
-/
import Derived.Test.YtchmdfjmleoajaaGreatPG16
import Derived.Test.YtchmdfjmleoajaaGreatPG17
import Derived.Deep.DeepCutAuto
set_option maxRecDepth 100000
set_option maxHeartbeats 40000000
set_option linter.unusedVariables false
set_option linter.unusedSimpArgs false
namespace Go.Proofs.YtchmdfjmleoajaaGreat
open Go.RowKit
theorem hid_of {p : Prop} (h : p) : Hid p := h
theorem rat_short {w : World} {n : Bool} {ao bo : Option Addr} {l c lb cb : Nat} {v : Int} (h : RatAt w n ao l c bo lb cb ((v : Int) : Rat)) (hv : lim v ≤ 400) : l ≤ 1073741824 ∧ lb ≤ 1073741824 := by
 have := h.len (sz_int hv (by decide)); omega
theorem boundMoves_any (lo : Option Addr) (len cap : Nat) (w : World) (hE : MovesAt w lo len) (hl : len ≤ 9223372036854775807) :
  Calls Tryz.prog 3 #[.slice lo len cap] w fun e w' => e = .returned (.bool true) ∧ Below w.heap.size w w' := by
 have HE : Hid (MovesAt w lo len) := hE
 clear hE
 go_enter Tryz.func3, Tryz.ntmps3
 go_wp2
 go_loopw [3] (fun i wr => ∃ k : Nat, k ≤ len ∧ i = .int .i64 (k : Int) ∧ Below w.heap.size w wr) (fun i _ => len - (intOf i).toNat)
 case atStart => exact ⟨0, Nat.zero_le _, rfl, Below.refl _ _⟩
 case round =>
  obtain ⟨k, hk, rfl, hbel⟩ := hrel
  have z0 : (0 : Int) ≤ (k : Int) := by omega
  by_cases hlt : k < len
  ·
   have g1 : (k : Int) < (len : Int) := by omega
   by_cases h12 : k < 12
   ·
    have g2 : (k : Int) < 12 := by omega
    obtain ⟨b, off, rfl, hblt, po, co, pl, pc, lc, cc, nc, K, rs, xs, ⟨e0, e1, e2, e3⟩, hp, hpc, hx, hwx, hK1, hK2⟩ := HE.out k hlt
    have d0 := (hbel.cell (p := ⟨b, off + k * 4, none⟩) hblt).trans e0
    have d1 := (hbel.cell (p := ⟨b, off + k * 4 + 1, none⟩) hblt).trans e1
    have d2 := (hbel.cell (p := ⟨b, off + k * 4 + 2, none⟩) hblt).trans e2
    have d3 := (hbel.cell (p := ⟨b, off + k * 4 + 3, none⟩) hblt).trans e3
    obtain ⟨X, hX⟩ : ∃ X, X = wr.alloc (.cells #[.slice po pl pc, .bool nc, .slice co lc cc, .int .i64 K] 30) := ⟨_, rfl⟩
    have HXB : Hid (Below wr.heap.size wr X ∧ (∀ V, Below X.heap.size X V → (V.cell? ⟨wr.heap.size, 0, none⟩ = some (.slice po pl pc) ∧ V.cell? ⟨wr.heap.size, 1, none⟩ = some (.bool nc) ∧ V.cell? ⟨wr.heap.size, 2, none⟩ = some (.slice co lc cc) ∧ V.cell? ⟨wr.heap.size, 3, none⟩ = some (.int .i64 K)))) := by
     rw [hX]
     exact ⟨(Below.refl _ _).alloc (Nat.le_refl _) _, fun V hb => ⟨(hb.cell (p := ⟨wr.heap.size, 0, none⟩) (by simp)).trans (by simp [go_sem]), (hb.cell (p := ⟨wr.heap.size, 1, none⟩) (by simp)).trans (by simp [go_sem]), (hb.cell (p := ⟨wr.heap.size, 2, none⟩) (by simp)).trans (by simp [go_sem]), (hb.cell (p := ⟨wr.heap.size, 3, none⟩) (by simp)).trans (by simp [go_sem])⟩⟩
    have HP0 : Hid (RawsAt X po pl pc rs ∧ RowAt X .u64 co lc cc xs ∧ Wd 18446744073709551616 xs ∧ pl ≤ 9223372036854775807) := ⟨(hp.later hbel).later HXB.out.1, (hx.later hbel).later HXB.out.1, hwx, Nat.le_trans hp.hcap hpc⟩
    clear e0 e1 e2 e3 hp hpc hx hwx hblt
    obtain ⟨hv, hhv⟩ : ∃ c, (heavyB 9 3 pl rs || decide (3 < (lc : Int))) = c := ⟨_, rfl⟩
    have HHV : Hid ((heavyB 9 3 pl rs || decide (3 < (lc : Int))) = hv) := hhv
    clear hhv
    cases hv
    rotate_left
    ·
     go_wp2_with (go_at_call 4; rw [← hX]; clear hX; refine (heavy6_any po pl pc rs nc co lc cc K _ HP0.out.1 HP0.out.2.2.2 true HHV.out).mono ?_; rintro e x1 ⟨rfl, hb1⟩)
     go_ret
     exact ⟨rfl, bnext hbel (bnext HXB.out.1 hb1)⟩
    obtain ⟨hh1, hh2⟩ := Bool.or_eq_false_iff.1 HHV.out
    obtain ⟨hpl, hlim⟩ := heavyB_false hh1
    replace hpl : pl ≤ 10 := hpl
    have hlc : lc ≤ 3 := by have := of_decide_eq_false hh2; omega
    have HLM : Hid (∀ r ∈ rs, r.2.length ≤ 3) := hlim
    clear hh1 hh2 hlim
    obtain ⟨mP, hmP⟩ : ∃ m, pmayB pl rs = m := ⟨_, rfl⟩
    obtain ⟨mC, hmC⟩ : ∃ m, mayB nc xs = m := ⟨_, rfl⟩
    have HMM : Hid (pmayB pl rs = mP ∧ mayB nc xs = mC) := ⟨hmP, hmC⟩
    clear hmP hmC
    have S0 : Hid True := trivial
    cases mP
    ·
     go_wp2_with (first
      | (have _t := S1; clear S1 _t; go_at_call 5; refine (pmay_any po pl pc rs _ (HP0.out.1.later hB1) (by omega) (fun r hr => Nat.le_trans (HLM.out r hr) (by decide)) false HMM.out.1).mono ?_; rintro e x2 ⟨rfl, hb⟩; have hB2 := bnext hB1 hb; clear hb; clear c0 c1 c2 c3; obtain ⟨c0, c1, c2, c3⟩ := HXB.out.2 _ hB2; have S2 : Hid True := trivial)
      | (have _t := S0; clear S0 _t; go_at_call 4; rw [← hX]; clear hX; refine (heavy6_any po pl pc rs nc co lc cc K _ HP0.out.1 HP0.out.2.2.2 false HHV.out).mono ?_; rintro e x1 ⟨rfl, hB1⟩; obtain ⟨c0, c1, c2, c3⟩ := HXB.out.2 _ hB1; have S1 : Hid True := trivial))
     go_roundw
     case rel => exact ⟨k + 1, by omega, by go_num, bnext hbel (bnext HXB.out.1 hB2)⟩
     case measure => simp [intOf]; omega
    cases mC
    ·
     go_wp2_with (first
      | (have _t := S2; clear S2 _t; go_at_call 6; refine (may_at nc co lc cc xs _ (HP0.out.2.1.later hB2) (by omega) false HMM.out.2).mono ?_; rintro e x3 ⟨rfl, hb⟩; have hB3 := bnext hB2 hb; clear hb; clear c0 c1 c2 c3; obtain ⟨c0, c1, c2, c3⟩ := HXB.out.2 _ hB3; have S3 : Hid True := trivial)
      | (have _t := S1; clear S1 _t; go_at_call 5; refine (pmay_any po pl pc rs _ (HP0.out.1.later hB1) (by omega) (fun r hr => Nat.le_trans (HLM.out r hr) (by decide)) true HMM.out.1).mono ?_; rintro e x2 ⟨rfl, hb⟩; have hB2 := bnext hB1 hb; clear hb; clear c0 c1 c2 c3; obtain ⟨c0, c1, c2, c3⟩ := HXB.out.2 _ hB2; have S2 : Hid True := trivial)
      | (have _t := S0; clear S0 _t; go_at_call 4; rw [← hX]; clear hX; refine (heavy6_any po pl pc rs nc co lc cc K _ HP0.out.1 HP0.out.2.2.2 false HHV.out).mono ?_; rintro e x1 ⟨rfl, hB1⟩; obtain ⟨c0, c1, c2, c3⟩ := HXB.out.2 _ hB1; have S1 : Hid True := trivial))
     go_roundw
     case rel => exact ⟨k + 1, by omega, by go_num, bnext hbel (bnext HXB.out.1 hB3)⟩
     case measure => simp [intOf]; omega
    obtain ⟨p, hpP, hp3, hpL⟩ := poly_of_raws HP0.out.1 HMM.out.1 HLM.out
    obtain ⟨cv, hcv, _⟩ := int_of_may HP0.out.2.1 HP0.out.2.2.1 HMM.out.2
    have hcl : lim cv ≤ 3 := by rw [← hcv.lim]; exact hlc
    have hn10 : p.length ≤ 10 := by rw [← hpP.hlen]; exact hpl
    have HF : Hid (∀ j, j ≤ 4 → MovF p cv j) := fun j hj => movF hp3 hcl hn10 hj
    have HPL : Hid (Lead p ∧ Lim 3 p ∧ lim cv ≤ 3 ∧ p.length ≤ 10 ∧ pl = p.length ∧ ShLim 1000000000 cv p ∧ ShLim 1000000000 (-cv) (sh cv p) ∧ sh (-cv) (sh cv p) = p) := ⟨hpL, hp3, hcl, hn10, hpP.hlen, ShLim.of (N := 10) hp3 hcl hn10 (by decide), ShLim.of (N := 10) (C := 3) (HF.out 0 (by decide)).shl (by rw [lim_neg]; exact hcl) (by rw [sh_len]; exact hn10) (by decide), by rw [sh_sh, show cv + -cv = 0 by omega, sh_zero]⟩
    have HST : Hid (∀ V, Below X.heap.size X V → PolyAt V po pl pc p ∧ IntAt V nc co lc cc cv) := fun V hb => ⟨hpP.later hb, hcv.later hb⟩
    clear hpP hp3 hpL hcv hcl hn10
    go_wp2_with (first
     | (have _t := S16; clear S16 _t; go_at_call 5; refine (pmay_poly os ls ls (stL k5 p.length p) _ Hs.out (by rw [Hs.out.hlen]; (try rw [sh_len]); (try rw [mir_len]); (try rw [stL_len]); have := HPL.out.2.2.2.1; omega) (stL_lead HPL.out.1) ((HF.out k5 (by omega)).stl.mono (by decide))).mono ?_; rintro e x12 ⟨rfl, hb⟩; replace Hx := hid_of (Hx.out.later hb); replace Hy := hid_of (Hy.out.later hb); replace Hs := hid_of (Hs.out.later hb); have hB12 := bnext hB11 hb; clear hb; clear c0 c1 c2 c3; obtain ⟨c0, c1, c2, c3⟩ := HXB.out.2 _ hB12; have S17 : Hid True := trivial)
     | (have _t := S15; clear S15 _t; go_at_call 5; refine (pmay_poly oy ly ly (mir p.length p) _ Hy.out (by rw [Hy.out.hlen]; (try rw [sh_len]); (try rw [mir_len]); (try rw [stL_len]); have := HPL.out.2.2.2.1; omega) (mir_lead HPL.out.1) ((HF.out 0 (by decide)).mil.mono (by decide))).mono ?_; rintro e x11 ⟨rfl, hb⟩; replace Hx := hid_of (Hx.out.later hb); replace Hy := hid_of (Hy.out.later hb); replace Hs := hid_of (Hs.out.later hb); have hB11 := bnext hB10 hb; clear hb; clear c0 c1 c2 c3; obtain ⟨c0, c1, c2, c3⟩ := HXB.out.2 _ hB11; have S16 : Hid True := trivial)
     | (have _t := S14; clear S14 _t; go_at_call 5; refine (pmay_poly ox lx lx (sh cv p) _ Hx.out (by rw [Hx.out.hlen]; (try rw [sh_len]); (try rw [mir_len]); (try rw [stL_len]); have := HPL.out.2.2.2.1; omega) (sh_lead HPL.out.1) ((HF.out 0 (by decide)).shl.mono (by decide))).mono ?_; rintro e x10 ⟨rfl, hb⟩; replace Hx := hid_of (Hx.out.later hb); replace Hy := hid_of (Hy.out.later hb); replace Hs := hid_of (Hs.out.later hb); have hB10 := bnext hB9 hb; clear hb; clear c0 c1 c2 c3; obtain ⟨c0, c1, c2, c3⟩ := HXB.out.2 _ hB10; have S15 : Hid True := trivial)
     | (have _t := S13; clear S13 _t; go_at_call 13; refine (eqpoly_same ob po lb pl lb pc p _ Hb.out (HST.out _ hB8).1 (by rw [Hb.out.hlen]; have := HPL.out.2.2.2.1; omega) (HPL.out.2.1.mono (by decide))).mono ?_; rintro e x9 ⟨rfl, hb⟩; replace Hx := hid_of (Hx.out.later hb); replace Hy := hid_of (Hy.out.later hb); replace Hs := hid_of (Hs.out.later hb); have hB9 := bnext hB8 hb; clear hb Hb; clear c0 c1 c2 c3; obtain ⟨c0, c1, c2, c3⟩ := HXB.out.2 _ hB9; have S14 : Hid True := trivial)
     | (have _t := S12; clear S12 _t; go_at_call 12; refine (num6_any _ _).mono ?_; rintro e xw ⟨rfl, hw⟩; replace hw := hw.symm; subst hw; have S13 : Hid True := trivial)
     | (have _t := S11; clear S11 _t; go_at_call 12; refine (num6_any _ _).mono ?_; rintro e xw ⟨rfl, hw⟩; replace hw := hw.symm; subst hw; have S12 : Hid True := trivial)
     | (have _t := S10; clear S10 _t; go_at_call 12; refine (num6_any _ _).mono ?_; rintro e xw ⟨rfl, hw⟩; replace hw := hw.symm; subst hw; have S11 : Hid True := trivial)
     | (have _t := S9; clear S9 _t; go_at_call 12; refine (num6_any _ _).mono ?_; rintro e xw ⟨rfl, hw⟩; replace hw := hw.symm; subst hw; have S10 : Hid True := trivial)
     | (have _t := S8; clear S8 _t; go_at_call 8; refine (bshift_ok ox lx lx (sh cv p) n7 o7 l7 c7 (-cv) _ Hx.out (by rw [Hx.out.hlen, sh_len]; have := HPL.out.2.2.2.1; omega) (sh_lead HPL.out.1) H7.out HPL.out.2.2.2.2.2.2.1).mono ?_; rintro e x8 ⟨ob, lb, rfl, hq, hb⟩; replace Hx := hid_of (Hx.out.later hb); replace Hy := hid_of (Hy.out.later hb); replace Hs := hid_of (Hs.out.later hb); have hB8 := bnext hB7 hb; have Hb : Hid (PolyAt x8 ob lb lb p) := (by rw [HPL.out.2.2.2.2.2.2.2] at hq; exact hq); clear hq hb H7; clear c0 c1 c2 c3; obtain ⟨c0, c1, c2, c3⟩ := HXB.out.2 _ hB8; have hLx : ¬ ((pl : Int) < (lx : Int)) := (by rw [Hx.out.hlen, sh_len, HPL.out.2.2.2.2.1]; omega); have hNx : ¬ (pl < lx) := (by omega); have hLy : ¬ ((pl : Int) < (ly : Int)) := (by rw [Hy.out.hlen, mir_len, HPL.out.2.2.2.2.1]; omega); have hNy : ¬ (pl < ly) := (by omega); have hLs : ¬ ((pl : Int) < (ls : Int)) := (by rw [Hs.out.hlen, stL_len, HPL.out.2.2.2.2.1]; omega); have hNs : ¬ (pl < ls) := (by omega); have S9 : Hid True := trivial)
     | (have _t := S7; clear S7 _t; go_at_call 11; refine (rneg_any nc co lc cc cv _ (HST.out _ hB6).2 (by omega)).mono ?_; rintro e x7 ⟨n7, o7, l7, c7, rfl, hi7, hb⟩; replace Hx := hid_of (Hx.out.later hb); replace Hy := hid_of (Hy.out.later hb); replace Hs := hid_of (Hs.out.later hb); have hB7 := bnext hB6 hb; have H7 : Hid (IntAt x7 n7 o7 l7 c7 (-cv)) := hi7; clear hi7 hb; clear c0 c1 c2 c3; obtain ⟨c0, c1, c2, c3⟩ := HXB.out.2 _ hB7; have S8 : Hid True := trivial)
     | (have _t := S6; clear S6 _t; go_at_call 10; refine (bstretch_ok po pl pc k5 p _ (HST.out _ hB5).1 (by omega) HPL.out.1 (HPL.out.2.1.mono (by decide)) (by omega)).mono ?_; rintro e x6 ⟨os, ls, rfl, hq, hb⟩; replace Hx := hid_of (Hx.out.later hb); replace Hy := hid_of (Hy.out.later hb); have hB6 := bnext hB5 hb; have Hs : Hid (PolyAt x6 os ls ls (stL k5 p.length p)) := hq; clear hq hb; clear c0 c1 c2 c3; obtain ⟨c0, c1, c2, c3⟩ := HXB.out.2 _ hB6; have S7 : Hid True := trivial)
     | (have _t := S5; clear S5 _t; go_at_call 9; refine (bmirror_ok po pl pc p _ (HST.out _ hB4).1 (by omega) HPL.out.1 (HPL.out.2.1.mono (by decide))).mono ?_; rintro e x5 ⟨oy, ly, rfl, hq, hb⟩; replace Hx := hid_of (Hx.out.later hb); have hB5 := bnext hB4 hb; have Hy : Hid (PolyAt x5 oy ly ly (mir p.length p)) := hq; clear hq hb; clear c0 c1 c2 c3; obtain ⟨c0, c1, c2, c3⟩ := HXB.out.2 _ hB5; have S6 : Hid True := trivial)
     | (have _t := S4; clear S4 _t; go_at_call 8; refine (bshift_ok po pl pc p nc co lc cc cv _ (HST.out _ hB3).1 (by omega) HPL.out.1 (HST.out _ hB3).2 HPL.out.2.2.2.2.2.1).mono ?_; rintro e x4 ⟨ox, lx, rfl, hq, hb⟩; have hB4 := bnext hB3 hb; have Hx : Hid (PolyAt x4 ox lx lx (sh cv p)) := hq; clear hq hb; clear c0 c1 c2 c3; obtain ⟨c0, c1, c2, c3⟩ := HXB.out.2 _ hB4; have S5 : Hid True := trivial)
     | (have _t := S3; clear S3 _t; go_at_call 7; refine (within_any K 5 _ hK1 hK2 (by decide) (by decide)).mono ?_; rintro e xw ⟨k5, hk5, rfl, hw⟩; replace hw := hw.symm; subst hw; have S4 : Hid True := trivial)
     | (have _t := S2; clear S2 _t; go_at_call 6; refine (may_at nc co lc cc xs _ (HP0.out.2.1.later hB2) (by omega) true HMM.out.2).mono ?_; rintro e x3 ⟨rfl, hb⟩; have hB3 := bnext hB2 hb; clear hb; clear c0 c1 c2 c3; obtain ⟨c0, c1, c2, c3⟩ := HXB.out.2 _ hB3; have S3 : Hid True := trivial)
     | (have _t := S1; clear S1 _t; go_at_call 5; refine (pmay_any po pl pc rs _ (HP0.out.1.later hB1) (by omega) (fun r hr => Nat.le_trans (HLM.out r hr) (by decide)) true HMM.out.1).mono ?_; rintro e x2 ⟨rfl, hb⟩; have hB2 := bnext hB1 hb; clear hb; clear c0 c1 c2 c3; obtain ⟨c0, c1, c2, c3⟩ := HXB.out.2 _ hB2; have S2 : Hid True := trivial)
     | (have _t := S0; clear S0 _t; go_at_call 4; rw [← hX]; clear hX; refine (heavy6_any po pl pc rs nc co lc cc K _ HP0.out.1 HP0.out.2.2.2 false HHV.out).mono ?_; rintro e x1 ⟨rfl, hB1⟩; obtain ⟨c0, c1, c2, c3⟩ := HXB.out.2 _ hB1; have S1 : Hid True := trivial))
    clear c0 c1 c2 c3
    obtain ⟨rp, hrp⟩ : ∃ r, r = wr.heap.size := ⟨_, rfl⟩
    have HZ : Hid (∀ V, Below x12.heap.size x12 V → (V.cell? ⟨rp, 0, none⟩ = some (.slice po pl pc) ∧ V.cell? ⟨rp, 1, none⟩ = some (.bool nc) ∧ V.cell? ⟨rp, 2, none⟩ = some (.slice co lc cc) ∧ V.cell? ⟨rp, 3, none⟩ = some (.int .i64 K)) ∧ (PolyAt V po pl pc p ∧ IntAt V nc co lc cc cv) ∧ PolyAt V ox lx lx (sh cv p) ∧ PolyAt V oy ly ly (mir p.length p) ∧ PolyAt V os ls ls (stL k5 p.length p)) := by
     rw [hrp]
     exact fun V hb => ⟨HXB.out.2 _ (bnext hB12 hb), HST.out _ (bnext hB12 hb), Hx.out.later hb, Hy.out.later hb, Hs.out.later hb⟩
    have HLN : Hid (lx ≤ 1000 ∧ ly ≤ 1000 ∧ ls ≤ 1000) := ⟨by rw [Hx.out.hlen, sh_len]; have := HPL.out.2.2.2.1; omega, by rw [Hy.out.hlen, mir_len]; have := HPL.out.2.2.2.1; omega, by rw [Hs.out.hlen, stL_len]; have := HPL.out.2.2.2.1; omega⟩
    rw [← hrp]
    have HFIN : Hid (∀ V, Below x12.heap.size x12 V → Below w.heap.size w V) := fun V hb => bnext hbel (bnext HXB.out.1 (bnext hB12 hb))
    clear hrp Hx Hy Hs HST HXB HP0 hB12
    go_loopw [14] (fun nn wi => ∃ n : Int, -3 ≤ n ∧ n ≤ 4 ∧ nn = .int .i64 n ∧ Below x12.heap.size x12 wi) (fun nn _ => (4 - intOf nn).toNat)
    case atStart => exact ⟨-3, by decide, by decide, rfl, Below.refl _ _⟩
    case round =>
     obtain ⟨n, hn1, hn2, rfl, hbi⟩ := hrel
     by_cases h3 : n ≤ 3
     rotate_left
     ·
      have h4 : ¬ n ≤ 3 := h3
      go_wp2
      go_roundw
      case rel => exact ⟨k + 1, by omega, by go_num, HFIN.out _ hbi⟩
      case measure => simp [intOf]; omega
     have habs : n.natAbs ≤ 3 := by omega
     have HLA : Hid (lim n ≤ 400 ∧ lim (n + cv) ≤ 400 ∧ lim (-n) ≤ 400 ∧ lim (n * ((2 ^ k5 : Nat) : Int)) ≤ 400 ∧ (n + cv).natAbs ≤ 18446744073709551616 ^ 4 ∧ (-n).natAbs ≤ 18446744073709551616 ^ 4 ∧ (n * ((2 ^ k5 : Nat) : Int)).natAbs ≤ 18446744073709551616 ^ 4) := by
      have q1 : lim n ≤ 1 := lim_small (by omega)
      have q2 := lim_add n cv
      have q3 := HPL.out.2.2.1
      have q4 := abs_lt q3
      have q5 : 2 ^ k5 ≤ 2 ^ 4 := Nat.pow_le_pow_right (by decide) (by omega)
      have q6 : (n * ((2 ^ k5 : Nat) : Int)).natAbs ≤ 3 * 16 := by rw [Int.natAbs_mul, Int.natAbs_natCast]; exact Nat.mul_le_mul habs q5
      have q7 := Int.natAbs_add_le n cv
      refine ⟨by omega, by omega, by rw [lim_neg]; omega, Nat.le_trans (lim_small (by omega)) (by decide), ?_, by rw [Int.natAbs_neg]; omega, by omega⟩
      omega
     go_upto_region 19 with (go_at_call 14; refine (qint_any n _ (by omega) (by omega)).mono ?_; rintro e y1 ⟨na, oa, la, ca, qa, ma, ka, rfl, hra, hb1⟩; have HA0 : Hid (RatAt y1 na oa la ca qa ma ka ((n : Int) : Rat)) := hra; clear hra)
     obtain ⟨ra, hrae⟩ : ∃ r, r = y1.heap.size := ⟨_, rfl⟩
     obtain ⟨A, hA⟩ : ∃ A, A = y1.alloc (.cells #[.bool na, .slice oa la ca, .slice qa ma ka] 44) := ⟨_, rfl⟩
     have HAA : Hid (Below x12.heap.size x12 A ∧ ra < A.heap.size ∧ (A.cell? ⟨ra, 0, none⟩ = some (.bool na) ∧ A.cell? ⟨ra, 1, none⟩ = some (.slice oa la ca) ∧ A.cell? ⟨ra, 2, none⟩ = some (.slice qa ma ka)) ∧ RatAt A na oa la ca qa ma ka ((n : Int) : Rat)) := by
      rw [hA, hrae]
      exact ⟨bnext (bnext hbi hb1) ((Below.refl _ _).alloc (Nat.le_refl _) _), by simp, ⟨by simp [go_sem], by simp [go_sem], by simp [go_sem]⟩, HA0.out.later ((Below.refl _ _).alloc (Nat.le_refl _) _)⟩
     rw [← hA, ← hrae]
     clear hA hrae HA0 hb1
     have HG : Hid (∀ V, Below A.heap.size A V → ((PolyAt V po pl pc p ∧ IntAt V nc co lc cc cv) ∧ PolyAt V ox lx lx (sh cv p) ∧ PolyAt V oy ly ly (mir p.length p) ∧ PolyAt V os ls ls (stL k5 p.length p)) ∧ RatAt V na oa la ca qa ma ka ((n : Int) : Rat)) := fun V hb => ⟨(HZ.out _ (bnext HAA.out.1 hb)).2, HAA.out.2.2.2.later hb⟩
     have KS : Hid (∀ w', Below A.heap.size A w' → w'.cell? ⟨rp, 0, none⟩ = some (.slice po pl pc) ∧ w'.cell? ⟨rp, 1, none⟩ = some (.bool nc) ∧ w'.cell? ⟨rp, 2, none⟩ = some (.slice co lc cc) ∧ w'.cell? ⟨ra, 0, none⟩ = some (.bool na) ∧ w'.cell? ⟨ra, 1, none⟩ = some (.slice oa la ca) ∧ w'.cell? ⟨ra, 2, none⟩ = some (.slice qa ma ka)) := fun w' hb => by
      obtain ⟨q0, q1, q2, _⟩ := (HZ.out _ (bnext HAA.out.1 hb)).1
      exact ⟨q0, q1, q2, (hb.cell (p := ⟨ra, 0, none⟩) HAA.out.2.1).trans HAA.out.2.2.1.1, (hb.cell (p := ⟨ra, 1, none⟩) HAA.out.2.1).trans HAA.out.2.2.1.2.1, (hb.cell (p := ⟨ra, 2, none⟩) HAA.out.2.1).trans HAA.out.2.2.1.2.2⟩
     go_cut [183] (fun s183 wx => s183 = .bool false ∧ Below A.heap.size A wx)
     case first =>
      refine wp_region_noPanic ?_
      refine wp_region_held_drew (S := fun w' => (w'.cell? ⟨rp, 0, none⟩ = some (.slice po pl pc) ∧ w'.cell? ⟨rp, 1, none⟩ = some (.bool nc) ∧ w'.cell? ⟨rp, 2, none⟩ = some (.slice co lc cc) ∧ w'.cell? ⟨ra, 0, none⟩ = some (.bool na) ∧ w'.cell? ⟨ra, 1, none⟩ = some (.slice oa la ca) ∧ w'.cell? ⟨ra, 2, none⟩ = some (.slice qa ma ka))) (by kernel_rfl) (by (try dsimp only); exact KS.out _ (Below.refl _ _).drew) (fun hHeld => ?_)
      refine wpAnyH_take (i := 0) (oi := Oper.mk (some 144) _ _ _ _ _) (v := ?_) rfl (by decide +kernel) (by decide +kernel) (by decide +kernel) (fun _ _ _ h => h) (Or.inl ⟨by rfl, ?_⟩) (by assumption) ?_
      rotate_left
      ·
       (intro w hSw; (try dsimp only at hSw); go_simp <;> (try with_reducible rfl))
      (try simp only [Act.put, List.setIfInBounds_toArray, List.set_cons_zero, List.set_cons_succ])
      refine wpAnyH_take (i := 1) (oi := Oper.mk (some 145) _ _ _ _ _) (v := ?_) rfl (by decide +kernel) (by decide +kernel) (by decide +kernel) (fun _ _ _ h => h) (Or.inl ⟨by rfl, ?_⟩) (by assumption) ?_
      rotate_left
      ·
       (intro w hSw; (try dsimp only at hSw); go_simp <;> (try with_reducible rfl))
      (try simp only [Act.put, List.setIfInBounds_toArray, List.set_cons_zero, List.set_cons_succ])
      refine wpAnyH_take (i := 3) (oi := Oper.mk (some 147) _ _ _ _ _) (v := ?_) rfl (by decide +kernel) (by decide +kernel) (by decide +kernel) (fun _ _ _ h => h) (Or.inl ⟨by rfl, ?_⟩) (by assumption) ?_
      rotate_left
      ·
       (intro w hSw; (try dsimp only at hSw); go_simp <;> (try with_reducible rfl))
      (try simp only [Act.put, List.setIfInBounds_toArray, List.set_cons_zero, List.set_cons_succ])
      refine wpAnyH_take (i := 4) (oi := Oper.mk (some 148) _ _ _ _ _) (v := ?_) rfl (by decide +kernel) (by decide +kernel) (by decide +kernel) (fun _ _ _ h => h) (Or.inl ⟨by rfl, ?_⟩) (by assumption) ?_
      rotate_left
      ·
       (intro w hSw; (try dsimp only at hSw); go_simp <;> (try with_reducible rfl))
      (try simp only [Act.put, List.setIfInBounds_toArray, List.set_cons_zero, List.set_cons_succ])
      refine wpAnyH_take (i := 5) (oi := Oper.mk (some 149) _ _ _ _ _) (v := ?_) rfl (by decide +kernel) (by decide +kernel) (by decide +kernel) (fun _ _ _ h => h) (Or.inl ⟨by rfl, ?_⟩) (by assumption) ?_
      rotate_left
      ·
       (intro w hSw; (try dsimp only at hSw); go_simp <;> (try with_reducible rfl))
      (try simp only [Act.put, List.setIfInBounds_toArray, List.set_cons_zero, List.set_cons_succ])
      refine wpAnyH_take (i := 6) (oi := Oper.mk (some 150) _ _ _ _ _) (v := ?_) rfl (by decide +kernel) (by decide +kernel) (by decide +kernel) (fun _ _ _ h => h) (Or.inl ⟨by rfl, ?_⟩) (by assumption) ?_
      rotate_left
      ·
       (intro w hSw; (try dsimp only at hSw); go_simp <;> (try with_reducible rfl))
      (try simp only [Act.put, List.setIfInBounds_toArray, List.set_cons_zero, List.set_cons_succ])
      refine wpAnyH_take (i := 7) (oi := Oper.mk (some 151) _ _ _ _ _) (v := ?_) rfl (by decide +kernel) (by decide +kernel) (by decide +kernel) (fun _ _ _ h => h) (Or.inl ⟨by rfl, ?_⟩) (by assumption) ?_
      rotate_left
      ·
       (intro w hSw; (try dsimp only at hSw); go_simp <;> (try with_reducible rfl))
      (try simp only [Act.put, List.setIfInBounds_toArray, List.set_cons_zero, List.set_cons_succ])
      refine wpAnyH_ready (rs := [2]) (by decide +kernel) (by simp) ?_
      refine AllReadyH.cons (o := Oper.mk (some 146) _ _ _ _ _) rfl (fun K hK => ?_) AllReadyH.nil
      go_simp
      (go_at_call 16; refine (peval_int ox lx lx (sh cv p) na oa qa la ca ma ka n _ (HG.out _ (Below.refl _ _).drew).1.2.1 (HG.out _ (Below.refl _ _).drew).2 HLN.out.1 HLA.out.1 (HF.out 0 (by decide)).shl ((HF.out 0 (by decide)).shv n habs)).mono ?_; rintro e z2 ⟨n2, o2, l2, c2, p2, m2, k2, rfl, hr, hb⟩; have R2 : Hid (RatAt z2 n2 o2 l2 c2 p2 m2 k2 ((ev (sh cv p) n : Int) : Rat)) := hr; clear hr; have hz2 : Below A.heap.size A z2 := bnext (Below.refl _ _).drew hb; clear hb)
      (try go_wp2_with fail)
      clear hHeld
      refine hK.out _ _ (by (try dsimp only); exact KS.out _ hz2) (fun hHeld => ?_)
      clear hK K
      (try simp only [Act.put, List.setIfInBounds_toArray, List.set_cons_zero, List.set_cons_succ])
      refine wpAnyH_ready (rs := [8]) (by decide +kernel) (by simp) ?_
      refine AllReadyH.cons (o := Oper.mk (some 152) _ _ _ _ _) rfl (fun K hK => ?_) AllReadyH.nil
      go_simp
      (go_at_call 18; refine (qfrom_any nc co lc cc (mag cv.natAbs) _ (HG.out _ hz2).1.1.2.row).mono ?_; rintro e z8 ⟨p8, m8, k8, rfl, hr, ho, hb⟩; have R8 : Hid (RatAt z8 nc co lc cc p8 m8 k8 ((cv : Int) : Rat)) := rat_int ⟨(HG.out _ hz2).1.1.2.sg, hr⟩ ho.row; clear hr ho; replace R2 := hid_of (R2.out.later hb); have hz8 : Below A.heap.size A z8 := bnext hz2 hb; clear hb)
      (try go_wp2_with fail)
      clear hHeld
      refine hK.out _ _ (by (try dsimp only); exact KS.out _ hz8) (fun hHeld => ?_)
      clear hK K
      (try simp only [Act.put, List.setIfInBounds_toArray, List.set_cons_zero, List.set_cons_succ])
      refine wpAnyH_ready (rs := [9]) (by decide +kernel) (by simp) ?_
      refine AllReadyH.cons (o := Oper.mk (some 153) _ _ _ _ _) rfl (fun K hK => ?_) AllReadyH.nil
      go_simp
      (go_at_call 17; refine (qplus_any na nc oa qa co p8 la ca ma ka lc cc m8 k8 _ _ _ (HG.out _ hz8).2 R8.out ((sz_int HLA.out.1 (by decide)).mono (by decide)) ((sz_int (Nat.le_trans HPL.out.2.2.1 (by decide : 3 ≤ 400)) (by decide)).mono (by decide))).mono ?_; rintro e z9 ⟨n9, o9, l9, c9, p9, m9, k9, rfl, hr, hb⟩; have R9 : Hid (RatAt z9 n9 o9 l9 c9 p9 m9 k9 ((n + cv : Int) : Rat)) := (by rw [Rat.intCast_add]; exact hr); clear hr; replace R2 := hid_of (R2.out.later hb); have hz9 : Below A.heap.size A z9 := bnext hz8 hb; clear hb R8)
      (try go_wp2_with fail)
      clear hHeld
      refine hK.out _ _ (by (try dsimp only); exact KS.out _ hz9) (fun hHeld => ?_)
      clear hK K
      (try simp only [Act.put, List.setIfInBounds_toArray, List.set_cons_zero, List.set_cons_succ])
      refine wpAnyH_ready (rs := [10]) (by decide +kernel) (by simp) ?_
      refine AllReadyH.cons (o := Oper.mk (some 154) _ _ _ _ _) rfl (fun K hK => ?_) AllReadyH.nil
      go_simp
      (go_at_call 16; refine (peval_int po pl pc p n9 o9 p9 l9 c9 m9 k9 (n + cv) _ (HG.out _ hz9).1.1.1 R9.out (by omega) HLA.out.2.1 (HPL.out.2.1.mono (by decide)) ((HF.out 0 (by decide)).pv _ HLA.out.2.2.2.2.1)).mono ?_; rintro e z10 ⟨n10, o10, l10, c10, p10, m10, k10, rfl, hr, hb⟩; have R10 : Hid (RatAt z10 n10 o10 l10 c10 p10 m10 k10 ((ev p (n + cv) : Int) : Rat)) := hr; clear hr; replace R2 := hid_of (R2.out.later hb); have hz10 : Below A.heap.size A z10 := bnext hz9 hb; clear hb R9)
      (try go_wp2_with fail)
      clear hHeld
      refine hK.out _ _ (by (try dsimp only); exact KS.out _ hz10) (fun hHeld => ?_)
      clear hK K
      (try simp only [Act.put, List.setIfInBounds_toArray, List.set_cons_zero, List.set_cons_succ])
      refine wpAnyH_ready (rs := [11]) (by decide +kernel) (by simp) ?_
      refine AllReadyH.cons (o := Oper.mk (some 155) _ _ _ _ _) rfl (fun K hK => ?_) AllReadyH.nil
      go_simp
      (go_at_call 15; refine (eqrat_same n2 n10 o2 p2 o10 p10 l2 c2 m2 k2 l10 c10 m10 k10 ((ev (sh cv p) n : Int) : Rat) _ R2.out (by rw [sh_ev]; exact R10.out) (rat_short R2.out ((HF.out 0 (by decide)).shv n habs 0)).1 (rat_short R2.out ((HF.out 0 (by decide)).shv n habs 0)).2).mono ?_; rintro e z11 ⟨rfl, hb⟩; have hz11 : Below A.heap.size A z11 := bnext hz10 hb; clear hb R2 R10)
      (try go_wp2_with fail)
      clear hHeld
      refine hK.out _ _ (by (try dsimp only); exact KS.out _ hz11) (fun hHeld => ?_)
      clear hK K
      (try simp only [Act.put, List.setIfInBounds_toArray, List.set_cons_zero, List.set_cons_succ])
      refine wpAnyH_take (i := 12) (oi := Oper.mk (some 156) _ _ _ _ _) (v := ?_) rfl (by decide +kernel) (by decide +kernel) (by decide +kernel) (fun _ _ _ h => h) (Or.inl ⟨by rfl, ?_⟩) (by assumption) ?_
      rotate_left
      ·
       (intro w hSw; (try dsimp only at hSw); go_simp <;> (try with_reducible rfl))
      (try simp only [Act.put, List.setIfInBounds_toArray, List.set_cons_zero, List.set_cons_succ])
      refine wpAnyH_take (i := 13) (oi := Oper.mk (some 157) _ _ _ _ _) (v := ?_) rfl (by decide +kernel) (by decide +kernel) (by decide +kernel) (fun _ _ _ h => h) (Or.inl ⟨by rfl, ?_⟩) (by assumption) ?_
      rotate_left
      ·
       (intro w hSw; (try dsimp only at hSw); go_simp <;> (try with_reducible rfl))
      (try simp only [Act.put, List.setIfInBounds_toArray, List.set_cons_zero, List.set_cons_succ])
      refine wpAnyH_take (i := 14) (oi := Oper.mk (some 158) _ _ _ _ _) (v := ?_) rfl (by decide +kernel) (by decide +kernel) (by decide +kernel) (fun _ _ _ h => h) (Or.inl ⟨by rfl, ?_⟩) (by assumption) ?_
      rotate_left
      ·
       (intro w hSw; (try dsimp only at hSw); go_simp <;> (try with_reducible rfl))
      (try simp only [Act.put, List.setIfInBounds_toArray, List.set_cons_zero, List.set_cons_succ])
      refine wpAnyH_take (i := 15) (oi := Oper.mk (some 159) _ _ _ _ _) (v := ?_) rfl (by decide +kernel) (by decide +kernel) (by decide +kernel) (fun _ _ _ h => h) (Or.inl ⟨by rfl, ?_⟩) (by assumption) ?_
      rotate_left
      ·
       (intro w hSw; (try dsimp only at hSw); go_simp <;> (try with_reducible rfl))
      (try simp only [Act.put, List.setIfInBounds_toArray, List.set_cons_zero, List.set_cons_succ])
      refine wpAnyH_take (i := 17) (oi := Oper.mk (some 161) _ _ _ _ _) (v := ?_) rfl (by decide +kernel) (by decide +kernel) (by decide +kernel) (fun _ _ _ h => h) (Or.inl ⟨by rfl, ?_⟩) (by assumption) ?_
      rotate_left
      ·
       (intro w hSw; (try dsimp only at hSw); go_simp <;> (try with_reducible rfl))
      (try simp only [Act.put, List.setIfInBounds_toArray, List.set_cons_zero, List.set_cons_succ])
      refine wpAnyH_take (i := 18) (oi := Oper.mk (some 162) _ _ _ _ _) (v := ?_) rfl (by decide +kernel) (by decide +kernel) (by decide +kernel) (fun _ _ _ h => h) (Or.inl ⟨by rfl, ?_⟩) (by assumption) ?_
      rotate_left
      ·
       (intro w hSw; (try dsimp only at hSw); go_simp <;> (try with_reducible rfl))
      (try simp only [Act.put, List.setIfInBounds_toArray, List.set_cons_zero, List.set_cons_succ])
      refine wpAnyH_take (i := 19) (oi := Oper.mk (some 163) _ _ _ _ _) (v := ?_) rfl (by decide +kernel) (by decide +kernel) (by decide +kernel) (fun _ _ _ h => h) (Or.inl ⟨by rfl, ?_⟩) (by assumption) ?_
      rotate_left
      ·
       (intro w hSw; (try dsimp only at hSw); go_simp <;> (try with_reducible rfl))
      (try simp only [Act.put, List.setIfInBounds_toArray, List.set_cons_zero, List.set_cons_succ])
      refine wpAnyH_ready (rs := [16]) (by decide +kernel) (by simp) ?_
      refine AllReadyH.cons (o := Oper.mk (some 160) _ _ _ _ _) rfl (fun K hK => ?_) AllReadyH.nil
      go_simp
      (go_at_call 16; refine (peval_int oy ly ly (mir p.length p) na oa qa la ca ma ka n _ (HG.out _ hz11).1.2.2.1 (HG.out _ hz11).2 HLN.out.2.1 HLA.out.1 (HF.out 0 (by decide)).mil ((HF.out 0 (by decide)).miv n habs)).mono ?_; rintro e z16 ⟨n16, o16, l16, c16, p16, m16, k16, rfl, hr, hb⟩; have R16 : Hid (RatAt z16 n16 o16 l16 c16 p16 m16 k16 ((ev (mir p.length p) n : Int) : Rat)) := hr; clear hr; have hz16 : Below A.heap.size A z16 := bnext hz11 hb; clear hb)
      (try go_wp2_with fail)
      clear hHeld
      refine hK.out _ _ (by (try dsimp only); exact KS.out _ hz16) (fun hHeld => ?_)
      clear hK K
      (try simp only [Act.put, List.setIfInBounds_toArray, List.set_cons_zero, List.set_cons_succ])
      refine wpAnyH_ready (rs := [20]) (by decide +kernel) (by simp) ?_
      refine AllReadyH.cons (o := Oper.mk (some 164) _ _ _ _ _) rfl (fun K hK => ?_) AllReadyH.nil
      go_simp
      (go_at_call 19; refine (qneg_any na oa qa la ca ma ka _ _ (HG.out _ hz16).2 (by rw [(HG.out _ hz16).2.num.lim, Rat.num_intCast]; have := HLA.out.1; omega)).mono ?_; rintro e z20 ⟨n20, o20, l20, c20, p20, m20, k20, rfl, hr, hb⟩; have R20 : Hid (RatAt z20 n20 o20 l20 c20 p20 m20 k20 ((-n : Int) : Rat)) := (by rw [Rat.intCast_neg]; exact hr); clear hr; replace R16 := hid_of (R16.out.later hb); have hz20 : Below A.heap.size A z20 := bnext hz16 hb; clear hb)
      (try go_wp2_with fail)
      clear hHeld
      refine hK.out _ _ (by (try dsimp only); exact KS.out _ hz20) (fun hHeld => ?_)
      clear hK K
      (try simp only [Act.put, List.setIfInBounds_toArray, List.set_cons_zero, List.set_cons_succ])
      refine wpAnyH_ready (rs := [21]) (by decide +kernel) (by simp) ?_
      refine AllReadyH.cons (o := Oper.mk (some 165) _ _ _ _ _) rfl (fun K hK => ?_) AllReadyH.nil
      go_simp
      (go_at_call 16; refine (peval_int po pl pc p n20 o20 p20 l20 c20 m20 k20 (-n) _ (HG.out _ hz20).1.1.1 R20.out (by omega) HLA.out.2.2.1 (HPL.out.2.1.mono (by decide)) ((HF.out 0 (by decide)).pv _ HLA.out.2.2.2.2.2.1)).mono ?_; rintro e z21 ⟨n21, o21, l21, c21, p21, m21, k21, rfl, hr, hb⟩; have R21 : Hid (RatAt z21 n21 o21 l21 c21 p21 m21 k21 ((ev p (-n) : Int) : Rat)) := hr; clear hr; replace R16 := hid_of (R16.out.later hb); have hz21 : Below A.heap.size A z21 := bnext hz20 hb; clear hb R20)
      (try go_wp2_with fail)
      clear hHeld
      refine hK.out _ _ (by (try dsimp only); exact KS.out _ hz21) (fun hHeld => ?_)
      clear hK K
      (try simp only [Act.put, List.setIfInBounds_toArray, List.set_cons_zero, List.set_cons_succ])
      refine wpAnyH_ready (rs := [22]) (by decide +kernel) (by simp) ?_
      refine AllReadyH.cons (o := Oper.mk (some 166) _ _ _ _ _) rfl (fun K hK => ?_) AllReadyH.nil
      go_simp
      (go_at_call 15; refine (eqrat_same n16 n21 o16 p16 o21 p21 l16 c16 m16 k16 l21 c21 m21 k21 ((ev (mir p.length p) n : Int) : Rat) _ R16.out (by rw [mir_ev]; exact R21.out) (rat_short R16.out ((HF.out 0 (by decide)).miv n habs 0)).1 (rat_short R16.out ((HF.out 0 (by decide)).miv n habs 0)).2).mono ?_; rintro e z22 ⟨rfl, hb⟩; have hz22 : Below A.heap.size A z22 := bnext hz21 hb; clear hb R16 R21)
      (try go_wp2_with fail)
      clear hHeld
      refine hK.out _ _ (by (try dsimp only); exact KS.out _ hz22) (fun hHeld => ?_)
      clear hK K
      (try simp only [Act.put, List.setIfInBounds_toArray, List.set_cons_zero, List.set_cons_succ])
      refine wpAnyH_take (i := 23) (oi := Oper.mk (some 167) _ _ _ _ _) (v := ?_) rfl (by decide +kernel) (by decide +kernel) (by decide +kernel) (fun _ _ _ h => h) (Or.inl ⟨by rfl, ?_⟩) (by assumption) ?_
      rotate_left
      ·
       (intro w hSw; (try dsimp only at hSw); go_simp <;> (try with_reducible rfl))
      (try simp only [Act.put, List.setIfInBounds_toArray, List.set_cons_zero, List.set_cons_succ])
      refine wpAnyH_take (i := 24) (oi := Oper.mk (some 168) _ _ _ _ _) (v := ?_) rfl (by decide +kernel) (by decide +kernel) (by decide +kernel) (fun _ _ _ h => h) (Or.inl ⟨by rfl, ?_⟩) (by assumption) ?_
      rotate_left
      ·
       (intro w hSw; (try dsimp only at hSw); go_simp <;> (try with_reducible rfl))
      (try simp only [Act.put, List.setIfInBounds_toArray, List.set_cons_zero, List.set_cons_succ])
      refine wpAnyH_take (i := 25) (oi := Oper.mk (some 169) _ _ _ _ _) (v := ?_) rfl (by decide +kernel) (by decide +kernel) (by decide +kernel) (fun _ _ _ h => h) (Or.inl ⟨by rfl, ?_⟩) (by assumption) ?_
      rotate_left
      ·
       (intro w hSw; (try dsimp only at hSw); go_simp <;> (try with_reducible rfl))
      (try simp only [Act.put, List.setIfInBounds_toArray, List.set_cons_zero, List.set_cons_succ])
      refine wpAnyH_take (i := 26) (oi := Oper.mk (some 170) _ _ _ _ _) (v := ?_) rfl (by decide +kernel) (by decide +kernel) (by decide +kernel) (fun _ _ _ h => h) (Or.inl ⟨by rfl, ?_⟩) (by assumption) ?_
      rotate_left
      ·
       (intro w hSw; (try dsimp only at hSw); go_simp <;> (try with_reducible rfl))
      (try simp only [Act.put, List.setIfInBounds_toArray, List.set_cons_zero, List.set_cons_succ])
      refine wpAnyH_take (i := 27) (oi := Oper.mk (some 171) _ _ _ _ _) (v := ?_) rfl (by decide +kernel) (by decide +kernel) (by decide +kernel) (fun _ _ _ h => h) (Or.inl ⟨by rfl, ?_⟩) (by assumption) ?_
      rotate_left
      ·
       (intro w hSw; (try dsimp only at hSw); go_simp <;> (try with_reducible rfl))
      (try simp only [Act.put, List.setIfInBounds_toArray, List.set_cons_zero, List.set_cons_succ])
      refine wpAnyH_take (i := 29) (oi := Oper.mk (some 173) _ _ _ _ _) (v := ?_) rfl (by decide +kernel) (by decide +kernel) (by decide +kernel) (fun _ _ _ h => h) (Or.inl ⟨by rfl, ?_⟩) (by assumption) ?_
      rotate_left
      ·
       (intro w hSw; (try dsimp only at hSw); go_simp <;> (try with_reducible rfl))
      (try simp only [Act.put, List.setIfInBounds_toArray, List.set_cons_zero, List.set_cons_succ])
      refine wpAnyH_take (i := 30) (oi := Oper.mk (some 174) _ _ _ _ _) (v := ?_) rfl (by decide +kernel) (by decide +kernel) (by decide +kernel) (fun _ _ _ h => h) (Or.inl ⟨by rfl, ?_⟩) (by assumption) ?_
      rotate_left
      ·
       (intro w hSw; (try dsimp only at hSw); go_simp <;> (try with_reducible rfl))
      (try simp only [Act.put, List.setIfInBounds_toArray, List.set_cons_zero, List.set_cons_succ])
      refine wpAnyH_take (i := 31) (oi := Oper.mk (some 175) _ _ _ _ _) (v := ?_) rfl (by decide +kernel) (by decide +kernel) (by decide +kernel) (fun _ _ _ h => h) (Or.inl ⟨by rfl, ?_⟩) (by assumption) ?_
      rotate_left
      ·
       (intro w hSw; (try dsimp only at hSw); go_simp <;> (try with_reducible rfl))
      (try simp only [Act.put, List.setIfInBounds_toArray, List.set_cons_zero, List.set_cons_succ])
      refine wpAnyH_take (i := 32) (oi := Oper.mk (some 176) _ _ _ _ _) (v := ?_) rfl (by decide +kernel) (by decide +kernel) (by decide +kernel) (fun _ _ _ h => h) (Or.inl ⟨by rfl, ?_⟩) (by assumption) ?_
      rotate_left
      ·
       (intro w hSw; (try dsimp only at hSw); go_simp <;> (try with_reducible rfl))
      (try simp only [Act.put, List.setIfInBounds_toArray, List.set_cons_zero, List.set_cons_succ])
      refine wpAnyH_take (i := 33) (oi := Oper.mk (some 177) _ _ _ _ _) (v := ?_) rfl (by decide +kernel) (by decide +kernel) (by decide +kernel) (fun _ _ _ h => h) (Or.inl ⟨by rfl, ?_⟩) (by assumption) ?_
      rotate_left
      ·
       (intro w hSw; (try dsimp only at hSw); go_simp <;> (try with_reducible rfl))
      (try simp only [Act.put, List.setIfInBounds_toArray, List.set_cons_zero, List.set_cons_succ])
      refine wpAnyH_ready (rs := [28]) (by decide +kernel) (by simp) ?_
      refine AllReadyH.cons (o := Oper.mk (some 172) _ _ _ _ _) rfl (fun K hK => ?_) AllReadyH.nil
      go_simp
      (go_at_call 16; refine (peval_int os ls ls (stL k5 p.length p) na oa qa la ca ma ka n _ (HG.out _ hz22).1.2.2.2 (HG.out _ hz22).2 HLN.out.2.2 HLA.out.1 (HF.out k5 (by omega)).stl ((HF.out k5 (by omega)).stv n habs)).mono ?_; rintro e z28 ⟨n28, o28, l28, c28, p28, m28, k28, rfl, hr, hb⟩; have R28 : Hid (RatAt z28 n28 o28 l28 c28 p28 m28 k28 ((ev (stL k5 p.length p) n : Int) : Rat)) := hr; clear hr; have hz28 : Below A.heap.size A z28 := bnext hz22 hb; clear hb)
      (try go_wp2_with fail)
      clear hHeld
      refine hK.out _ _ (by (try dsimp only); exact KS.out _ hz28) (fun hHeld => ?_)
      clear hK K
      (try simp only [Act.put, List.setIfInBounds_toArray, List.set_cons_zero, List.set_cons_succ])
      refine wpAnyH_ready (rs := [34]) (by decide +kernel) (by simp) ?_
      refine AllReadyH.cons (o := Oper.mk (some 178) _ _ _ _ _) rfl (fun K hK => ?_) AllReadyH.nil
      go_simp
      (go_at_call 20; refine (rleft_any na oa la ca k5 n _ (by have h := (HG.out _ hz28).2.num; rw [Rat.num_intCast] at h; exact h) (by rw [(HG.out _ hz28).2.num.lim, Rat.num_intCast]; have := HLA.out.1; omega) (by omega)).mono ?_; rintro e z34 ⟨n34, o34, l34, c34, rfl, hs, ho, hb⟩; have R34 : Hid (IntAt z34 n34 o34 l34 c34 (n * ((2 ^ k5 : Nat) : Int))) := ho.int hs; clear hs ho; replace R28 := hid_of (R28.out.later hb); have hz34 : Below A.heap.size A z34 := bnext hz28 hb; clear hb)
      (try go_wp2_with fail)
      clear hHeld
      refine hK.out _ _ (by (try dsimp only); exact KS.out _ hz34) (fun hHeld => ?_)
      clear hK K
      (try simp only [Act.put, List.setIfInBounds_toArray, List.set_cons_zero, List.set_cons_succ])
      refine wpAnyH_ready (rs := [35]) (by decide +kernel) (by simp) ?_
      refine AllReadyH.cons (o := Oper.mk (some 179) _ _ _ _ _) rfl (fun K hK => ?_) AllReadyH.nil
      go_simp
      (go_at_call 18; refine (qfrom_any n34 o34 l34 c34 (mag (n * ((2 ^ k5 : Nat) : Int)).natAbs) _ R34.out.row).mono ?_; rintro e z35 ⟨p35, m35, k35, rfl, hr, ho, hb⟩; have R35 : Hid (RatAt z35 n34 o34 l34 c34 p35 m35 k35 ((n * ((2 ^ k5 : Nat) : Int) : Int) : Rat)) := rat_int ⟨R34.out.sg, hr⟩ ho.row; clear hr ho; replace R28 := hid_of (R28.out.later hb); have hz35 : Below A.heap.size A z35 := bnext hz34 hb; clear hb R34)
      (try go_wp2_with fail)
      clear hHeld
      refine hK.out _ _ (by (try dsimp only); exact KS.out _ hz35) (fun hHeld => ?_)
      clear hK K
      (try simp only [Act.put, List.setIfInBounds_toArray, List.set_cons_zero, List.set_cons_succ])
      refine wpAnyH_ready (rs := [36]) (by decide +kernel) (by simp) ?_
      refine AllReadyH.cons (o := Oper.mk (some 180) _ _ _ _ _) rfl (fun K hK => ?_) AllReadyH.nil
      go_simp
      (go_at_call 16; refine (peval_int po pl pc p n34 o34 p35 l34 c34 m35 k35 (n * ((2 ^ k5 : Nat) : Int)) _ (HG.out _ hz35).1.1.1 R35.out (by omega) HLA.out.2.2.2.1 (HPL.out.2.1.mono (by decide)) ((HF.out 0 (by decide)).pv _ HLA.out.2.2.2.2.2.2)).mono ?_; rintro e z36 ⟨n36, o36, l36, c36, p36, m36, k36, rfl, hr, hb⟩; have R36 : Hid (RatAt z36 n36 o36 l36 c36 p36 m36 k36 ((ev p (n * ((2 ^ k5 : Nat) : Int)) : Int) : Rat)) := hr; clear hr; replace R28 := hid_of (R28.out.later hb); have hz36 : Below A.heap.size A z36 := bnext hz35 hb; clear hb R35)
      (try go_wp2_with fail)
      clear hHeld
      refine hK.out _ _ (by (try dsimp only); exact KS.out _ hz36) (fun hHeld => ?_)
      clear hK K
      (try simp only [Act.put, List.setIfInBounds_toArray, List.set_cons_zero, List.set_cons_succ])
      refine wpAnyH_ready (rs := [37]) (by decide +kernel) (by simp) ?_
      refine AllReadyH.cons (o := Oper.mk (some 181) _ _ _ _ _) rfl (fun K hK => ?_) AllReadyH.nil
      go_simp
      (go_at_call 15; refine (eqrat_same n28 n36 o28 p28 o36 p36 l28 c28 m28 k28 l36 c36 m36 k36 ((ev (stL k5 p.length p) n : Int) : Rat) _ R28.out (by rw [st_ev]; exact R36.out) (rat_short R28.out ((HF.out k5 (by omega)).stv n habs 0)).1 (rat_short R28.out ((HF.out k5 (by omega)).stv n habs 0)).2).mono ?_; rintro e z37 ⟨rfl, hb⟩; have hz37 : Below A.heap.size A z37 := bnext hz36 hb; clear hb R28 R36)
      (try go_wp2_with fail)
      clear hHeld
      refine hK.out _ _ (by (try dsimp only); exact KS.out _ hz37) (fun hHeld => ?_)
      clear hK K
      (try simp only [Act.put, List.setIfInBounds_toArray, List.set_cons_zero, List.set_cons_succ])
      refine wpAnyH_take (i := 38) (oi := Oper.mk (some 182) _ _ _ _ _) (v := ?_) rfl (by decide +kernel) (by decide +kernel) (by decide +kernel) (fun _ _ _ h => h) (Or.inl ⟨by rfl, ?_⟩) (by assumption) ?_
      rotate_left
      ·
       (intro w hSw; (try dsimp only at hSw); go_simp <;> (try with_reducible rfl))
      (try simp only [Act.put, List.setIfInBounds_toArray, List.set_cons_zero, List.set_cons_succ])
      refine wpAnyH_take (i := 39) (oi := Oper.mk (some 183) _ _ _ _ _) (v := ?_) rfl (by decide +kernel) (by decide +kernel) (by decide +kernel) (fun _ _ _ h => h) (Or.inl ⟨by rfl, ?_⟩) (by assumption) ?_
      rotate_left
      ·
       (intro w hSw; (try dsimp only at hSw); go_simp <;> (try with_reducible rfl))
      (try simp only [Act.put, List.setIfInBounds_toArray, List.set_cons_zero, List.set_cons_succ])
      refine wpAnyH_done (by decide +kernel) ?_ _
      refine NoPanic.normal ?_
      go_wp2
      go_meet
      exact ⟨rfl, hz37⟩
     case rest =>
      obtain ⟨rfl, hz37⟩ := hcut
      obtain ⟨Q, hQ⟩ : ∃ Q, Q = wc := ⟨_, rfl⟩
      subst hQ
      go_wp2
      go_roundw
      case rel => exact ⟨n + 1, by omega, by omega, by go_num, bnext HAA.out.1 hz37⟩
      case measure => simp [intOf]; omega
   ·
    have g2 : ¬ (k : Int) < 12 := by omega
    go_wp2_with (go_at_call 21; refine (wakes6_any _).mono ?_; rintro e w1 ⟨rfl, hb1⟩)
    go_ret
    exact ⟨rfl, bnext hbel hb1⟩
  ·
   have g1 : ¬ (k : Int) < (len : Int) := by omega
   go_wp2_with (go_at_call 21; refine (wakes6_any _).mono ?_; rintro e w1 ⟨rfl, hb1⟩)
   go_ret
   exact ⟨rfl, bnext hbel hb1⟩
end Go.Proofs.YtchmdfjmleoajaaGreat
