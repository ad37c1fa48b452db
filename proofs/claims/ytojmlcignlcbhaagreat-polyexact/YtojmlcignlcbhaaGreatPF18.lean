/-
  A pack of walks and facts: UN.
-/
import Derived.Test.YtojmlcignlcbhaaGreatPF17
import Derived.Deep.DeepCutAuto
set_option maxRecDepth 100000
set_option maxHeartbeats 40000000
set_option linter.unusedVariables false
set_option linter.unusedSimpArgs false
namespace Go.Proofs.YtojmlcignlcbhaaGreat
open Go.RowKit
theorem trimTab_len (N : Nat) (f : Nat → Int) : (trimL (tab N f)).length ≤ N := by
 rw [trimL_len]; exact Nat.le_trans (trimN_le _ _) (by rw [tab_len]; exact Nat.le_refl _)
theorem mulP_len {p s : List Int} {la lb : Nat} (h1 : la = p.length) (h2 : lb = s.length) : (mulP p s).length ≤ la + lb := by
 unfold mulP
 split
 ·
  simp
 ·
  rw [mulL_len _ _ (by omega)]; omega
theorem addF_lim {p s : List Int} (hp : Lim 3 p) (hs : Lim 3 s) (N : Nat) : Lim 100000 (trimL (tab N fun i => dig p i + dig s i)) := trimL_lim (tab_lim fun t _ => Nat.le_trans (lim_add _ _) (by have := hp t; have := hs t; omega))
theorem subF_lim {p s : List Int} (hp : Lim 3 p) (hs : Lim 3 s) (N : Nat) : Lim 100000 (trimL (tab N fun i => dig p i - dig s i)) := trimL_lim (tab_lim fun t _ => by rw [Int.sub_eq_add_neg]; exact Nat.le_trans (lim_add _ _) (by have := hp t; have := hs t; rw [lim_neg]; omega))
theorem mulF_lim {p : List Int} {c : Int} {k : Nat} (hp : Lim 3 p) (hc : lim c ≤ k) (hk : k ≤ 1000) (N : Nat) : Lim 100000 (trimL (tab N fun i => dig p i * c)) := trimL_lim (tab_lim fun t _ => Nat.le_trans (lim_mul _ _) (by have := hp t; omega))
theorem derF_lim {p : List Int} (hp : Lim 3 p) {N : Nat} (hN : N ≤ 1000) : Lim 100000 (trimL (tab N (derF p))) := trimL_lim (tab_lim fun t ht => by
 unfold derF
 have h1 := lim_small ((t : Int) + 1) (by omega)
 exact Nat.le_trans (lim_mul _ _) (by have := hp (t + 1); omega))
theorem bad1_cases (m : Bool) : (m = true ∧ bad1 m = 0) ∨ (m = false ∧ bad1 m = 50) := by cases m <;> simp [bad1]
theorem polyExact_any (lo : Option Addr) (len cap : Nat) (w : World) (hE : Items4 w lo len) (hl : len ≤ 9223372036854775807) :
  Calls Tryz.prog 3 #[.slice lo len cap] w fun e w' => e = .returned (.bool true) ∧ Below w.heap.size w w' := by
 have HE : Hid (Items4 w lo len) := hE
 clear hE
 go_enter Tryz.func3, Tryz.ntmps3
 go_wp2
 go_loopw [3] (fun i wr => ∃ k : Nat, k ≤ len ∧ i = .int .i64 (k : Int) ∧ Below w.heap.size w wr) (fun i _ => len - (intOf i).toNat)
 case atStart => exact ⟨0, Nat.zero_le _, rfl, Below.refl _ _⟩
 case round =>
  obtain ⟨k, hk, rfl, hbel⟩ := hrel
  have z0 : (0 : Int) ≤ (k : Int) := by omega
  by_cases hlt : k < len
  ·
   have g1 : (k : Int) < (len : Int) := by omega
   by_cases h15 : k < 15
   ·
    have g2 : (k : Int) < 15 := by omega
    obtain ⟨b, off, rfl, hblt, hit⟩ := HE.out k hlt
    refine hit.elim ?_
    intro ao bo co la ca lb cb lc cc n n4 n5 n6 o4 p4 o5 p5 o6 p6 l4 c4 m4 k4 l5 c5 m5 k5 l6 c6 m6 k6 rs ts zs ⟨hcell, hp, hs, hz, hzw, hca, hcb⟩
    have d0 : wr.cell? ⟨b, off + k * 13, none⟩ = some (.slice ao la ca) := (hbel.cell (p := ⟨b, off + k * 13, none⟩) hblt).trans (hcell 0 _ rfl)
    have d1 : wr.cell? ⟨b, off + k * 13 + 1, none⟩ = some (.slice bo lb cb) := (hbel.cell (p := ⟨b, off + k * 13 + 1, none⟩) hblt).trans (hcell 1 _ rfl)
    have d2 : wr.cell? ⟨b, off + k * 13 + 2, none⟩ = some (.bool n) := (hbel.cell (p := ⟨b, off + k * 13 + 2, none⟩) hblt).trans (hcell 2 _ rfl)
    have d3 : wr.cell? ⟨b, off + k * 13 + 3, none⟩ = some (.slice co lc cc) := (hbel.cell (p := ⟨b, off + k * 13 + 3, none⟩) hblt).trans (hcell 3 _ rfl)
    have d4 : wr.cell? ⟨b, off + k * 13 + 4, none⟩ = some (.bool n4) := (hbel.cell (p := ⟨b, off + k * 13 + 4, none⟩) hblt).trans (hcell 4 _ rfl)
    have d5 : wr.cell? ⟨b, off + k * 13 + 5, none⟩ = some (.slice o4 l4 c4) := (hbel.cell (p := ⟨b, off + k * 13 + 5, none⟩) hblt).trans (hcell 5 _ rfl)
    have d6 : wr.cell? ⟨b, off + k * 13 + 6, none⟩ = some (.slice p4 m4 k4) := (hbel.cell (p := ⟨b, off + k * 13 + 6, none⟩) hblt).trans (hcell 6 _ rfl)
    have d7 : wr.cell? ⟨b, off + k * 13 + 7, none⟩ = some (.bool n5) := (hbel.cell (p := ⟨b, off + k * 13 + 7, none⟩) hblt).trans (hcell 7 _ rfl)
    have d8 : wr.cell? ⟨b, off + k * 13 + 8, none⟩ = some (.slice o5 l5 c5) := (hbel.cell (p := ⟨b, off + k * 13 + 8, none⟩) hblt).trans (hcell 8 _ rfl)
    have d9 : wr.cell? ⟨b, off + k * 13 + 9, none⟩ = some (.slice p5 m5 k5) := (hbel.cell (p := ⟨b, off + k * 13 + 9, none⟩) hblt).trans (hcell 9 _ rfl)
    have d10 : wr.cell? ⟨b, off + k * 13 + 10, none⟩ = some (.bool n6) := (hbel.cell (p := ⟨b, off + k * 13 + 10, none⟩) hblt).trans (hcell 10 _ rfl)
    have d11 : wr.cell? ⟨b, off + k * 13 + 11, none⟩ = some (.slice o6 l6 c6) := (hbel.cell (p := ⟨b, off + k * 13 + 11, none⟩) hblt).trans (hcell 11 _ rfl)
    have d12 : wr.cell? ⟨b, off + k * 13 + 12, none⟩ = some (.slice p6 m6 k6) := (hbel.cell (p := ⟨b, off + k * 13 + 12, none⟩) hblt).trans (hcell 12 _ rfl)
    obtain ⟨X, hX⟩ : ∃ X, X = wr.alloc (.cells #[.slice ao la ca, .slice bo lb cb, .bool n, .slice co lc cc, .bool n4, .slice o4 l4 c4, .slice p4 m4 k4, .bool n5, .slice o5 l5 c5, .slice p5 m5 k5, .bool n6, .slice o6 l6 c6, .slice p6 m6 k6] 34) := ⟨_, rfl⟩
    have HXB : Hid (Below wr.heap.size wr X) := by rw [hX]; exact (Below.refl _ _).alloc (Nat.le_refl _) _
    have HCL : Hid (∀ V, Below X.heap.size X V → Cells V wr.heap.size [.slice ao la ca, .slice bo lb cb, .bool n, .slice co lc cc, .bool n4, .slice o4 l4 c4, .slice p4 m4 k4, .bool n5, .slice o5 l5 c5, .slice p5 m5 k5, .bool n6, .slice o6 l6 c6, .slice p6 m6 k6]) := by
     rw [hX]
     exact fun V hb => (Cells.new wr #[.slice ao la ca, .slice bo lb cb, .bool n, .slice co lc cc, .bool n4, .slice o4 l4 c4, .slice p4 m4 k4, .bool n5, .slice o5 l5 c5, .slice p5 m5 k5, .bool n6, .slice o6 l6 c6, .slice p6 m6 k6] 34).later hb (by simp)
    have HP0 : Hid (RawsAt X ao la ca rs ∧ RawsAt X bo lb cb ts ∧ RowAt X .u64 co lc cc zs ∧ Wd 18446744073709551616 zs ∧ la ≤ 9223372036854775807 ∧ lb ≤ 9223372036854775807) := ⟨(hp.later hbel).later HXB.out, (hs.later hbel).later HXB.out, (hz.later hbel).later HXB.out, hzw, Nat.le_trans hp.hcap hca, Nat.le_trans hs.hcap hcb⟩
    clear hcell hp hs hz hzw hca hcb hit hblt
    go_upto_if 36 with (go_at_call 4; rw [← hX]; clear hX; refine (heavy4_any ao bo co la ca lb cb lc cc n n4 n5 n6 o4 p4 o5 p5 o6 p6 l4 c4 m4 k4 l5 c5 m5 k5 l6 c6 m6 k6 rs ts _ HP0.out.1 HP0.out.2.1 HP0.out.2.2.2.2.1 HP0.out.2.2.2.2.2).mono ?_; rintro e x1 ⟨hv, rfl, hcond, hb1⟩)
    clear d0 d1 d2 d3 d4 d5 d6 d7 d8 d9 d10 d11 d12
    cases hv
    rotate_left
    ·
     go_wp2
     go_ret
     exact ⟨rfl, bnext hbel (bnext HXB.out hb1)⟩
    obtain ⟨hP, hQ, hlc⟩ := hcond rfl
    obtain ⟨hla, hlimP⟩ := heavyB_false hP
    obtain ⟨hlb, hlimQ⟩ := heavyB_false hQ
    replace hla : la ≤ 11 := hla
    replace hlb : lb ≤ 11 := hlb
    have HLM : Hid ((∀ r ∈ rs, r.2.length ≤ 3) ∧ (∀ r ∈ ts, r.2.length ≤ 3)) := ⟨hlimP, hlimQ⟩
    clear hP hQ hlimP hlimQ hcond
    obtain ⟨mP, hmP⟩ : ∃ m, pmayB la rs = m := ⟨_, rfl⟩
    obtain ⟨mQ, hmQ⟩ : ∃ m, pmayB lb ts = m := ⟨_, rfl⟩
    obtain ⟨mC, hmC⟩ : ∃ m, mayB n zs = m := ⟨_, rfl⟩
    have HMM : Hid (pmayB la rs = mP ∧ pmayB lb ts = mQ ∧ mayB n zs = mC) := ⟨hmP, hmQ, hmC⟩
    obtain ⟨cv, hcv⟩ : ∃ cv, mC = true → IntAt X n co lc cc cv := by
     by_cases q : mC = true
     ·
      obtain ⟨v, hv, _⟩ := int_of_may HP0.out.2.2.1 HP0.out.2.2.2.1 (hmC.trans q)
      exact ⟨v, fun _ => hv⟩
     ·
      exact ⟨0, fun h => absurd h q⟩
    have HCV : Hid (mC = true → IntAt X n co lc cc cv) := hcv
    obtain ⟨sg, hsg⟩ : ∃ c, bad1 mP = c := ⟨_, rfl⟩
    obtain ⟨bd, hbd⟩ : ∃ c, bad1 (mP && mQ) = c := ⟨_, rfl⟩
    obtain ⟨sc, hsc⟩ : ∃ c, bad1 (mP && mC) = c := ⟨_, rfl⟩
    have HSG : Hid (bad1 mP = sg ∧ bad1 (mP && mQ) = bd ∧ bad1 (mP && mC) = sc) := ⟨hsg, hbd, hsc⟩
    obtain ⟨N, hN⟩ : ∃ N, N = max la lb := ⟨_, rfl⟩
    have HN : Hid (N = max la lb) := hN
    clear hmP hmQ hmC hcv hsg hbd hsc hN
    have fq0 := HCL.out _ hb1 0 _ rfl
    have fq1 := HCL.out _ hb1 1 _ rfl
    have fq2 := HCL.out _ hb1 2 _ rfl
    have fq3 := HCL.out _ hb1 3 _ rfl
    have fq4 := HCL.out _ hb1 4 _ rfl
    have fq5 := HCL.out _ hb1 5 _ rfl
    have fq6 := HCL.out _ hb1 6 _ rfl
    have fq7 := HCL.out _ hb1 7 _ rfl
    have fq8 := HCL.out _ hb1 8 _ rfl
    have fq9 := HCL.out _ hb1 9 _ rfl
    have fq10 := HCL.out _ hb1 10 _ rfl
    have fq11 := HCL.out _ hb1 11 _ rfl
    have fq12 := HCL.out _ hb1 12 _ rfl
    go_upto_if 51 with (first
     | (go_at_call 8; refine (may_at n co lc cc zs _ (HP0.out.2.2.1.later (bnext hB3 hb5)) (by omega) mC HMM.out.2.2).mono ?_; rintro e x6 ⟨rfl, hb6'⟩; have hb6 : Below x3.heap.size x3 x6 := bnext hb5 hb6'; clear hb6' fq2 fq3)
     | (go_at_call 7; refine (one4_any ao bo co la ca lb cb lc cc n n4 n5 n6 o4 p4 o5 p5 o6 p6 l4 c4 m4 k4 l5 c5 m5 k5 l6 c6 m6 k6 rs _ (HP0.out.1.later (bnext hB3 hb4)) (by omega) HLM.out.1 mP HMM.out.1 sg HSG.out.1).mono ?_; rintro e x5 ⟨rfl, hb5'⟩; have hb5 := bnext hb4 hb5'; clear hb5' fq0 fq1 fq2 fq3 fq4 fq5 fq6 fq7 fq8 fq9 fq10 fq11 fq12; have fq2 := HCL.out _ (bnext hB3 hb5) 2 _ rfl; have fq3 := HCL.out _ (bnext hB3 hb5) 3 _ rfl)
     | (go_at_call 6; refine (two4_any ao bo co la ca lb cb lc cc n n4 n5 n6 o4 p4 o5 p5 o6 p6 l4 c4 m4 k4 l5 c5 m5 k5 l6 c6 m6 k6 rs ts _ (HP0.out.1.later hB3) (HP0.out.2.1.later hB3) (by omega) (by omega) HLM.out.1 HLM.out.2 mP mQ HMM.out.1 HMM.out.2.1 bd HSG.out.2.1).mono ?_; rintro e x4 ⟨rfl, hb4⟩; clear fq0 fq1 fq2 fq3 fq4 fq5 fq6 fq7 fq8 fq9 fq10 fq11 fq12; have fq0 := HCL.out _ (bnext hB3 hb4) 0 _ rfl; have fq1 := HCL.out _ (bnext hB3 hb4) 1 _ rfl; have fq2 := HCL.out _ (bnext hB3 hb4) 2 _ rfl; have fq3 := HCL.out _ (bnext hB3 hb4) 3 _ rfl; have fq4 := HCL.out _ (bnext hB3 hb4) 4 _ rfl; have fq5 := HCL.out _ (bnext hB3 hb4) 5 _ rfl; have fq6 := HCL.out _ (bnext hB3 hb4) 6 _ rfl; have fq7 := HCL.out _ (bnext hB3 hb4) 7 _ rfl; have fq8 := HCL.out _ (bnext hB3 hb4) 8 _ rfl; have fq9 := HCL.out _ (bnext hB3 hb4) 9 _ rfl; have fq10 := HCL.out _ (bnext hB3 hb4) 10 _ rfl; have fq11 := HCL.out _ (bnext hB3 hb4) 11 _ rfl; have fq12 := HCL.out _ (bnext hB3 hb4) 12 _ rfl)
     | (go_at_call 5; have _t := H2; refine (copyPoly_any bo lb cb ts _ (HP0.out.2.1.later H2.out.2) (by omega) (fun t => Nat.le_trans (rv_lim HLM.out.2 t) (by decide))).mono ?_; rintro e x3 ⟨ob, cb2, rfl, hrb, hb3⟩; have hB3 : Below X.heap.size X x3 := bnext H2.out.2 hb3; obtain ⟨p, hpa⟩ := parg_of_raws (H2.out.1.later hb3) hla (rv_lim HLM.out.1); obtain ⟨s, hsa⟩ := parg_of_raws hrb hlb (rv_lim HLM.out.2); rw [HMM.out.1] at hpa; rw [HMM.out.2.1] at hsa; have HST : Hid (∀ V, Below x3.heap.size x3 V → PArg V oa la ca2 rs mP p ∧ PArg V ob lb cb2 ts mQ s ∧ Cells V wr.heap.size [.slice ao la ca, .slice bo lb cb, .bool n, .slice co lc cc, .bool n4, .slice o4 l4 c4, .slice p4 m4 k4, .bool n5, .slice o5 l5 c5, .slice p5 m5 k5, .bool n6, .slice o6 l6 c6, .slice p6 m6 k6] ∧ RawsAt V ao la ca rs ∧ RawsAt V bo lb cb ts ∧ RowAt V .u64 co lc cc zs ∧ (mC = true → IntAt V n co lc cc cv)) := (fun V hV => ⟨hpa.later hV, hsa.later hV, HCL.out _ (bnext hB3 hV), HP0.out.1.later (bnext hB3 hV), HP0.out.2.1.later (bnext hB3 hV), HP0.out.2.2.1.later (bnext hB3 hV), fun q => (HCV.out q).later (bnext hB3 hV)⟩); clear hpa hsa hrb hb3 fq0 fq1 fq2 fq3 fq4 fq5 fq6 fq7 fq8 fq9 fq10 fq11 fq12; have fq0 := HCL.out _ hB3 0 _ rfl; have fq1 := HCL.out _ hB3 1 _ rfl; have fq2 := HCL.out _ hB3 2 _ rfl; have fq3 := HCL.out _ hB3 3 _ rfl; have fq4 := HCL.out _ hB3 4 _ rfl; have fq5 := HCL.out _ hB3 5 _ rfl; have fq6 := HCL.out _ hB3 6 _ rfl; have fq7 := HCL.out _ hB3 7 _ rfl; have fq8 := HCL.out _ hB3 8 _ rfl; have fq9 := HCL.out _ hB3 9 _ rfl; have fq10 := HCL.out _ hB3 10 _ rfl; have fq11 := HCL.out _ hB3 11 _ rfl; have fq12 := HCL.out _ hB3 12 _ rfl)
     | (go_at_call 5; (refine (copyPoly_any ao la ca rs _ (HP0.out.1.later hb1) (by omega) (fun t => Nat.le_trans (rv_lim HLM.out.1 t) (by decide))).mono ?_; rintro e x2 ⟨oa, ca2, rfl, hra, hb2⟩; have H2 : Hid (RawsAt x2 oa la ca2 rs ∧ Below X.heap.size X x2) := ⟨hra, bnext hb1 hb2⟩; clear hra hb2 fq0 fq1 fq2 fq3 fq4 fq5 fq6 fq7 fq8 fq9 fq10 fq11 fq12; have fq0 := HCL.out _ H2.out.2 0 _ rfl; have fq1 := HCL.out _ H2.out.2 1 _ rfl; have fq2 := HCL.out _ H2.out.2 2 _ rfl; have fq3 := HCL.out _ H2.out.2 3 _ rfl; have fq4 := HCL.out _ H2.out.2 4 _ rfl; have fq5 := HCL.out _ H2.out.2 5 _ rfl; have fq6 := HCL.out _ H2.out.2 6 _ rfl; have fq7 := HCL.out _ H2.out.2 7 _ rfl; have fq8 := HCL.out _ H2.out.2 8 _ rfl; have fq9 := HCL.out _ H2.out.2 9 _ rfl; have fq10 := HCL.out _ H2.out.2 10 _ rfl; have fq11 := HCL.out _ H2.out.2 11 _ rfl; have fq12 := HCL.out _ H2.out.2 12 _ rfl)))
    clear hb4 hb5 hb1
    go_cut [9] (fun s9 wx => s9 = .int .i64 sc ∧ Below x3.heap.size x3 wx)
    case first =>
     rcases Bool.eq_false_or_eq_true mC with q | q
     ·
      have HQ : Hid (sg = sc) := by show sg = sc; rw [← HSG.out.1, ← HSG.out.2.2, q, Bool.and_true]
      subst q
      go_wp2
      go_meet
      exact ⟨by rw [HQ.out], hb6⟩
     ·
      have HQ : Hid (50 = sc) := by show 50 = sc; rw [← HSG.out.2.2, q, Bool.and_false]; rfl
      subst q
      go_wp2
      go_meet
      exact ⟨by rw [← HQ.out], hb6⟩
    case rest => as_aux_lemma =>
     obtain ⟨rfl, hB7⟩ := hcut
     obtain ⟨x7, hx7⟩ : ∃ x, x = wc := ⟨_, rfl⟩
     rw [← hx7] at hB7
     obtain ⟨L0, hL0⟩ : ∃ L0, L0 = wc.alloc (.cells #[.bool false, .slice none 0 0] 28) := ⟨_, rfl⟩
     obtain ⟨rl, hrl⟩ : ∃ rl, rl = wc.heap.size := ⟨_, rfl⟩
     have HL0 : Hid (Below x3.heap.size x3 L0 ∧ Fresh L0 rl ∧ rl < L0.heap.size ∧ x3.heap.size ≤ rl) := by
      rw [hL0, hrl, ← hx7]
      exact ⟨bnext hB7 ((Below.refl _ _).alloc (Nat.le_refl _) _), Fresh.new x7, by simp, hB7.size⟩
     clear hb6
     go_upto_if 53 with fail
     rw [← hL0, ← hrl]
     clear hL0 hrl hx7 hB7
     go_cut [10, 11, 12, 18] (fun s10 s11 s12 s18 wx => ∃ o1 l1 c1 o2 l2 c2 o3 l3 c3 vc, s10 = .slice o1 l1 c1 ∧ s11 = .slice o2 l2 c2 ∧ s12 = .slice o3 l3 c3 ∧ s18 = .int .i64 vc ∧ (bd = 0 → PolyAt wx o1 l1 c1 (trimL (tab N fun i => dig p i + dig s i)) ∧ PolyAt wx o2 l2 c2 (trimL (tab N fun i => dig p i - dig s i)) ∧ PolyAt wx o3 l3 c3 (mulP p s) ∧ Lim 10000 (mulP p s)) ∧ (∀ a : Addr, o1 = some a ∨ o2 = some a ∨ o3 = some a → a.block ≠ rl) ∧ (if mP && mQ then cmpP p s else 0) = vc ∧ Below L0.heap.size L0 wx)
     case first => as_aux_lemma =>
      rcases bad1_cases (mP && mQ) with ⟨q, qc⟩ | ⟨q, qc⟩
      ·
       have HQ : Hid (bd = 0 ∧ mP = true ∧ mQ = true) := ⟨by rw [← HSG.out.2.1]; exact qc, by simpa using q⟩
       have hb0 : (bd == 0) = true := by rw [HQ.out.1]; rfl
       have HPA : Hid (∀ V, Below L0.heap.size L0 V → (PolyAt V oa la ca2 p ∧ Lead p ∧ Lim 3 p) ∧ (PolyAt V ob lb cb2 s ∧ Lead s ∧ Lim 3 s)) := fun V hV => ⟨(HST.out V (bnext HL0.out.1 hV)).1.good HQ.out.2.1, (HST.out V (bnext HL0.out.1 hV)).2.1.good HQ.out.2.2⟩
       clear q qc
       go_wp2_with (first
        | (go_at_call 12; refine (pcmp_any oa ob la ca2 lb cb2 3 p s _ _ (HPA.out _ K3.out.2).1.1 (HPA.out _ K3.out.2).2.1 (by omega) (by omega) (by decide) (HPA.out _ K3.out.2).1.2.2 (HPA.out _ K3.out.2).2.2.2 rfl).mono ?_; rintro e y4 ⟨rfl, hb⟩; have K4 : Hid ((PolyAt y4 o1 l1 c1 (trimL (tab N fun i => dig p i + dig s i)) ∧ PolyAt y4 o2 l2 c2 (trimL (tab N fun i => dig p i - dig s i)) ∧ PolyAt y4 o3 l3 c3 (mulP p s) ∧ Lim 10000 (mulP p s)) ∧ Below L0.heap.size L0 y4) := ⟨⟨K3.out.1.1.later hb, K3.out.1.2.1.later hb, K3.out.1.2.2.1.later hb, K3.out.1.2.2.2⟩, bnext K3.out.2 hb⟩; clear hb)
        | (go_at_call 11; refine (ptimes_P oa ob la ca2 lb cb2 p s _ (HPA.out _ K2.out.2).1.1 (HPA.out _ K2.out.2).2.1 (by omega) (by omega) (HPA.out _ K2.out.2).1.2.2 (HPA.out _ K2.out.2).2.2.2 (HPA.out _ K2.out.2).1.2.1 (HPA.out _ K2.out.2).2.2.1).mono ?_; rintro e y3 ⟨⟨o3, l3, c3, rfl, hp3, hn3, hb⟩, hlm⟩; have K3 : Hid ((PolyAt y3 o1 l1 c1 (trimL (tab N fun i => dig p i + dig s i)) ∧ PolyAt y3 o2 l2 c2 (trimL (tab N fun i => dig p i - dig s i)) ∧ PolyAt y3 o3 l3 c3 (mulP p s) ∧ Lim 10000 (mulP p s)) ∧ Below L0.heap.size L0 y3) := ⟨⟨K2.out.1.1.later hb, K2.out.1.2.later hb, hp3, hlm⟩, bnext K2.out.2 hb⟩; have N3 : Hid (∀ a : Addr, o3 = some a → a.block ≠ rl) := (fun a ha => by have := hn3 a ha; have := K2.out.2.size; have := HL0.out.2.2.1; omega); clear hp3 hn3 hb hlm)
        | (go_at_call 10; refine (pless_any oa ob la ca2 lb cb2 3 N p s _ (HPA.out _ K1.out.2).1.1 (HPA.out _ K1.out.2).2.1 (by omega) (by omega) (by decide) (HPA.out _ K1.out.2).1.2.2 (HPA.out _ K1.out.2).2.2.2 (HPA.out _ K1.out.2).2.2.1 HN.out).mono ?_; rintro e y2 ⟨o2, l2, c2, rfl, hp2, hn2, hb⟩; have K2 : Hid ((PolyAt y2 o1 l1 c1 (trimL (tab N fun i => dig p i + dig s i)) ∧ PolyAt y2 o2 l2 c2 (trimL (tab N fun i => dig p i - dig s i))) ∧ Below L0.heap.size L0 y2) := ⟨⟨K1.out.1.later hb, hp2⟩, bnext K1.out.2 hb⟩; have N2 : Hid (∀ a : Addr, o2 = some a → a.block ≠ rl) := (fun a ha => by have := hn2 a ha; have := K1.out.2.size; have := HL0.out.2.2.1; omega); clear hp2 hn2 hb)
        | (go_at_call 9; refine (pplus_any oa ob la ca2 lb cb2 3 N p s _ (HPA.out _ (Below.refl _ _)).1.1 (HPA.out _ (Below.refl _ _)).2.1 (by omega) (by omega) (by decide) (HPA.out _ (Below.refl _ _)).1.2.2 (HPA.out _ (Below.refl _ _)).2.2.2 HN.out).mono ?_; rintro e y1 ⟨o1, l1, c1, rfl, hp1, hn1, hb⟩; have K1 : Hid (PolyAt y1 o1 l1 c1 (trimL (tab N fun i => dig p i + dig s i)) ∧ Below L0.heap.size L0 y1) := ⟨hp1, hb⟩; have N1 : Hid (∀ a : Addr, o1 = some a → a.block ≠ rl) := (fun a ha => by have := hn1 a ha; have := HL0.out.2.2.1; omega); clear hp1 hn1 hb))
       go_meet
       exact ⟨o1, l1, c1, o2, l2, c2, o3, l3, c3, _, rfl, rfl, rfl, rfl, fun _ => K4.out.1, fun a ha => (by rcases ha with ha | ha | ha; exact N1.out a ha; exact N2.out a ha; exact N3.out a ha), by rw [HQ.out.2.1, HQ.out.2.2]; rfl, K4.out.2⟩
      ·
       have HQ : Hid (bd = 50 ∧ (mP && mQ) = false) := ⟨by rw [← HSG.out.2.1]; exact qc, q⟩
       have hb0 : (bd == 0) = false := by rw [HQ.out.1]; rfl
       clear q qc
       go_wp2
       go_meet
       exact ⟨none, 0, 0, none, 0, 0, none, 0, 0, 0, rfl, rfl, rfl, rfl, fun h => absurd (h.symm.trans HQ.out.1) (by decide), fun a ha => (by rcases ha with ha | ha | ha <;> cases ha), by rw [HQ.out.2]; rfl, Below.refl _ _⟩
     case rest => as_aux_lemma =>
      obtain ⟨o1, l1, c1, o2, l2, c2, o3, l3, c3, vc, rfl, rfl, rfl, rfl, hw1, hn1, hvc, hBL⟩ := hcut
      obtain ⟨Y, hY⟩ : ∃ Y, Y = wc := ⟨_, rfl⟩
      subst hY
      have HY : Hid ((bd = 0 → PolyAt Y o1 l1 c1 (trimL (tab N fun i => dig p i + dig s i)) ∧ PolyAt Y o2 l2 c2 (trimL (tab N fun i => dig p i - dig s i)) ∧ PolyAt Y o3 l3 c3 (mulP p s) ∧ Lim 10000 (mulP p s)) ∧ (∀ a : Addr, o1 = some a ∨ o2 = some a ∨ o3 = some a → a.block ≠ rl) ∧ (if mP && mQ then cmpP p s else 0) = vc ∧ Below x3.heap.size x3 Y ∧ Fresh Y rl ∧ rl < Y.heap.size) := ⟨hw1, hn1, hvc, bnext HL0.out.1 hBL, HL0.out.2.1.later hBL HL0.out.2.2.1, Nat.lt_of_lt_of_le HL0.out.2.2.1 hBL.size⟩
      clear hw1 hn1 hvc hBL
      go_upto_if 67 with fail
      go_cut [13, 15, 16] (fun s13 s15 s16 wx => ∃ o4' l4' c4' o6' l6' c6' vd n8 o8 l8 c8, s13 = .slice o4' l4' c4' ∧ s15 = .slice o6' l6' c6' ∧ s16 = .int .i64 vd ∧ (sg = 0 → PolyAt wx o4' l4' c4' (trimL (tab la fun i => dig p i * -1)) ∧ PolyAt wx o6' l6' c6' (trimL (tab (la - 1) (derF p)))) ∧ (if mP then (la : Int) - 1 else -1) = vd ∧ (bd = 0 → PolyAt wx o1 l1 c1 (trimL (tab N fun i => dig p i + dig s i)) ∧ PolyAt wx o2 l2 c2 (trimL (tab N fun i => dig p i - dig s i)) ∧ PolyAt wx o3 l3 c3 (mulP p s) ∧ Lim 10000 (mulP p s)) ∧ Cells wx rl [.bool n8, .slice o8 l8 c8] ∧ IntAt wx n8 o8 l8 c8 (if mP then dig p (la - 1) else 0) ∧ l8 ≤ 3 ∧ rl < wx.heap.size ∧ Below x3.heap.size x3 wx)
      case first => as_aux_lemma =>
       rcases bad1_cases mP with ⟨q, qc⟩ | ⟨q, qc⟩
       ·
        have HQ : Hid (sg = 0 ∧ mP = true) := ⟨by rw [← HSG.out.1]; exact qc, q⟩
        have hb0 : (sg == 0) = true := by rw [HQ.out.1]; rfl
        have HPA : Hid (∀ V, Below Y.heap.size Y V → (PolyAt V oa la ca2 p ∧ Lead p ∧ Lim 3 p)) := fun V hV => (HST.out V (bnext HY.out.2.2.2.1 hV)).1.good HQ.out.2
        clear q qc
        go_wp2_with (first
         | (go_at_call 16; refine (plead_any oa la ca2 p _ (HPA.out _ K3.out.2).1 (by omega)).mono ?_; rintro e y4 ⟨n8, o8, l8, c8, rfl, hi8, hb⟩; have K4 : Hid ((PolyAt y4 o4' l4' c4' (trimL (tab la fun i => dig p i * -1)) ∧ PolyAt y4 o6' l6' c6' (trimL (tab (la - 1) (derF p)))) ∧ Below Y.heap.size Y y4 ∧ IntAt y4 n8 o8 l8 c8 (dig p (la - 1))) := ⟨⟨K3.out.1.1.later hb, K3.out.1.2.later hb⟩, bnext K3.out.2 hb, hi8⟩; clear hi8 hb; have hfr := HY.out.2.2.2.2.1.later K4.out.2.1 HY.out.2.2.2.2.2; obtain ⟨g5, g3, g4⟩ := hfr)
         | (go_at_call 15; refine (pdeg_any oa la ca2 _ (by omega)).mono ?_; rintro e y3 ⟨rfl, hb⟩; have K3 : Hid ((PolyAt y3 o4' l4' c4' (trimL (tab la fun i => dig p i * -1)) ∧ PolyAt y3 o6' l6' c6' (trimL (tab (la - 1) (derF p)))) ∧ Below Y.heap.size Y y3) := ⟨⟨K2.out.1.1.later hb, K2.out.1.2.later hb⟩, bnext K2.out.2 hb⟩; clear hb)
         | (go_at_call 14; refine (pder_any oa la ca2 3 p _ (HPA.out _ K1.out.2).1 (by omega) (by decide) (HPA.out _ K1.out.2).2.2).mono ?_; rintro e y2 ⟨o6', l6', c6', rfl, hp2, hn2, hb⟩; have K2 : Hid ((PolyAt y2 o4' l4' c4' (trimL (tab la fun i => dig p i * -1)) ∧ PolyAt y2 o6' l6' c6' (trimL (tab (la - 1) (derF p)))) ∧ Below Y.heap.size Y y2) := ⟨⟨K1.out.1.later hb, hp2⟩, bnext K1.out.2 hb⟩; have N2 : Hid (∀ a : Addr, o6' = some a → a.block ≠ rl) := (fun a ha => by have := hn2 a ha; have := K1.out.2.size; have := HY.out.2.2.2.2.2; omega); clear hp2 hn2 hb)
         | (go_at_call 13; refine (pneg_any oa la ca2 3 p _ (HPA.out _ (Below.refl _ _)).1 (by omega) (by decide) (HPA.out _ (Below.refl _ _)).2.2).mono ?_; rintro e y1 ⟨o4', l4', c4', rfl, hp1, hn1, hb⟩; have K1 : Hid (PolyAt y1 o4' l4' c4' (trimL (tab la fun i => dig p i * -1)) ∧ Below Y.heap.size Y y1) := ⟨hp1, hb⟩; have N1 : Hid (∀ a : Addr, o4' = some a → a.block ≠ rl) := (fun a ha => by have := hn1 a ha; have := HY.out.2.2.2.2.2; omega); clear hp1 hn1 hb))
        have HFR : Hid (Fresh y4 rl) := ⟨g5, g3, g4⟩
        go_meet
        refine ⟨o4', l4', c4', o6', l6', c6', (la : Int) - 1, n8, o8, l8, c8, rfl, rfl, by go_num, fun _ => ⟨K4.out.1.1.kept HFR.out N1.out _ _, K4.out.1.2.kept HFR.out N2.out _ _⟩, by rw [HQ.out.2]; rfl, fun h => ?_, ?_, ?_, ?_, ?_, ?_⟩
        ·
         obtain ⟨h1, h2, h3, h4⟩ := HY.out.1 h
         exact ⟨(h1.later K4.out.2.1).kept HFR.out (fun a ha => HY.out.2.1 a (Or.inl ha)) _ _, (h2.later K4.out.2.1).kept HFR.out (fun a ha => HY.out.2.1 a (Or.inr (Or.inl ha))) _ _, (h3.later K4.out.2.1).kept HFR.out (fun a ha => HY.out.2.1 a (Or.inr (Or.inr ha))) _ _, h4⟩
        ·
         intro j u hj
         match j with
         | 0 => simp at hj; subst hj; simp [go_sem, g3, g4]
         | 1 => simp at hj; subst hj; simp [go_sem, g3, g4]
         | j + 2 => simp at hj
        ·
         rw [HQ.out.2, if_pos rfl]; exact ⟨K4.out.2.2.sg, K4.out.2.2.row.kept HFR.out _ _⟩
        ·
         rw [K4.out.2.2.lim]; exact (HPA.out _ K4.out.2.1).2.2 _
        ·
         have := K4.out.2.1.size; have := HY.out.2.2.2.2.2; simp; omega
        ·
         exact below_store (bnext HY.out.2.2.2.1 K4.out.2.1) HL0.out.2.2.2 _ _
       ·
        have HQ : Hid (sg = 50 ∧ mP = false) := ⟨by rw [← HSG.out.1]; exact qc, q⟩
        have hb0 : (sg == 0) = false := by rw [HQ.out.1]; rfl
        clear q qc
        go_wp2
        go_meet
        refine ⟨none, 0, 0, none, 0, 0, -1, false, none, 0, 0, rfl, rfl, rfl, fun h => absurd (h.symm.trans HQ.out.1) (by decide), by rw [HQ.out.2]; rfl, HY.out.1, ?_, by rw [HQ.out.2]; exact ⟨rfl, RowAt.nilRow _ _⟩, by decide, HY.out.2.2.2.2.2, HY.out.2.2.2.1⟩
        intro j u hj
        match j with
        | 0 => simp at hj; subst hj; exact HY.out.2.2.2.2.1.2.1
        | 1 => simp at hj; subst hj; exact HY.out.2.2.2.2.1.2.2
        | j + 2 => simp at hj
      case rest => as_aux_lemma =>
       obtain ⟨o4', l4', c4', o6', l6', c6', vd, n8, o8, l8, c8, rfl, rfl, rfl, hw2, hvd, hw1, hc8, hi8, hl8, hrl, hBx⟩ := hcut
       obtain ⟨Y3, hY3⟩ : ∃ Y, Y = wc := ⟨_, rfl⟩
       subst hY3
       have HZ3 : Hid ((sg = 0 → PolyAt Y3 o4' l4' c4' (trimL (tab la fun i => dig p i * -1)) ∧ PolyAt Y3 o6' l6' c6' (trimL (tab (la - 1) (derF p)))) ∧ (if mP then (la : Int) - 1 else -1) = vd ∧ (bd = 0 → PolyAt Y3 o1 l1 c1 (trimL (tab N fun i => dig p i + dig s i)) ∧ PolyAt Y3 o2 l2 c2 (trimL (tab N fun i => dig p i - dig s i)) ∧ PolyAt Y3 o3 l3 c3 (mulP p s) ∧ Lim 10000 (mulP p s)) ∧ Cells Y3 rl [.bool n8, .slice o8 l8 c8] ∧ IntAt Y3 n8 o8 l8 c8 (if mP then dig p (la - 1) else 0) ∧ rl < Y3.heap.size ∧ Below x3.heap.size x3 Y3 ∧ (if mP && mQ then cmpP p s else 0) = vc) := ⟨hw2, hvd, hw1, hc8, hi8, hrl, hBx, HY.out.2.2.1⟩
       clear hw2 hvd hw1 hc8 hi8 hrl hBx HY
       go_upto_if 77 with fail
       go_cut [14] (fun s14 wx => ∃ o5' l5' c5', s14 = .slice o5' l5' c5' ∧ (sc = 0 → PolyAt wx o5' l5' c5' (trimL (tab la fun i => dig p i * cv))) ∧ Below Y3.heap.size Y3 wx)
       case first => as_aux_lemma =>
        rcases bad1_cases (mP && mC) with ⟨q, qc⟩ | ⟨q, qc⟩
        ·
         have HQ : Hid (sc = 0 ∧ mP = true ∧ mC = true) := ⟨by rw [← HSG.out.2.2]; exact qc, by simpa using q⟩
         have hb0 : (sc == 0) = true := by rw [HQ.out.1]; rfl
         have HPA : Hid ((PolyAt Y3 oa la ca2 p ∧ Lead p ∧ Lim 3 p) ∧ IntAt Y3 n co lc cc cv) := ⟨(HST.out Y3 HZ3.out.2.2.2.2.2.2.1).1.good HQ.out.2.1, (HST.out Y3 HZ3.out.2.2.2.2.2.2.1).2.2.2.2.2.2 HQ.out.2.2⟩
         have fq2 := (HST.out Y3 HZ3.out.2.2.2.2.2.2.1).2.2.1 2 _ rfl
         have fq3 := (HST.out Y3 HZ3.out.2.2.2.2.2.2.1).2.2.1 3 _ rfl
         clear q qc
         go_wp2_with (go_at_call 17; refine (pscale_any oa la ca2 3 p n co lc cc cv _ HPA.out.1.1 HPA.out.2 (by omega) (by decide) HPA.out.1.2.2 (by omega)).mono ?_; rintro e y1 ⟨o5', l5', c5', rfl, hp1, hn1, hb⟩)
         go_meet
         exact ⟨o5', l5', c5', rfl, fun _ => hp1, hb⟩
        ·
         have HQ : Hid (sc = 50) := by show sc = 50; rw [← HSG.out.2.2]; exact qc
         have hb0 : (sc == 0) = false := by rw [HQ.out]; rfl
         clear q qc
         go_wp2
         go_meet
         exact ⟨none, 0, 0, rfl, fun h => absurd (h.symm.trans HQ.out) (by decide), Below.refl _ _⟩
       case rest => as_aux_lemma =>
        obtain ⟨o5', l5', c5', rfl, hw3, hBz⟩ := hcut
        obtain ⟨Z, hZ⟩ : ∃ Z, Z = wc := ⟨_, rfl⟩
        subst hZ
        have HALL : Hid (∀ V, Below Z.heap.size Z V → ((bd = 0 → PolyAt V o1 l1 c1 (trimL (tab N fun i => dig p i + dig s i)) ∧ PolyAt V o2 l2 c2 (trimL (tab N fun i => dig p i - dig s i)) ∧ PolyAt V o3 l3 c3 (mulP p s) ∧ Lim 10000 (mulP p s)) ∧ (sg = 0 → PolyAt V o4' l4' c4' (trimL (tab la fun i => dig p i * -1)) ∧ PolyAt V o6' l6' c6' (trimL (tab (la - 1) (derF p)))) ∧ (sc = 0 → PolyAt V o5' l5' c5' (trimL (tab la fun i => dig p i * cv)))) ∧ (Cells V rl [.bool n8, .slice o8 l8 c8] ∧ IntAt V n8 o8 l8 c8 (if mP then dig p (la - 1) else 0)) ∧ PArg V oa la ca2 rs mP p ∧ PArg V ob lb cb2 ts mQ s ∧ Cells V wr.heap.size [.slice ao la ca, .slice bo lb cb, .bool n, .slice co lc cc, .bool n4, .slice o4 l4 c4, .slice p4 m4 k4, .bool n5, .slice o5 l5 c5, .slice p5 m5 k5, .bool n6, .slice o6 l6 c6, .slice p6 m6 k6] ∧ RawsAt V ao la ca rs ∧ RawsAt V bo lb cb ts ∧ RowAt V .u64 co lc cc zs ∧ (mC = true → IntAt V n co lc cc cv)) := fun V hV => by
         have hYV : Below Y3.heap.size Y3 V := bnext hBz hV
         refine ⟨⟨fun h => ?_, fun h => ?_, fun h => (hw3 h).later hV⟩, ⟨HZ3.out.2.2.2.1.later hYV HZ3.out.2.2.2.2.2.1, HZ3.out.2.2.2.2.1.later hYV⟩, HST.out V (bnext HZ3.out.2.2.2.2.2.2.1 hYV)⟩
         ·
          obtain ⟨h1, h2, h3, h4⟩ := HZ3.out.2.2.1 h
          exact ⟨h1.later hYV, h2.later hYV, h3.later hYV, h4⟩
         ·
          exact ⟨(HZ3.out.1 h).1.later hYV, (HZ3.out.1 h).2.later hYV⟩
        have HVV : Hid ((if mP then (la : Int) - 1 else -1) = vd ∧ (if mP && mQ then cmpP p s else 0) = vc ∧ Below x3.heap.size x3 Z) := ⟨HZ3.out.2.1, HZ3.out.2.2.2.2.2.2.2, bnext HZ3.out.2.2.2.2.2.2.1 hBz⟩
        clear hw3 hBz HZ3 HST HL0
        go_upto_region 31 with fail
        have KS : Hid (∀ w', Below Z.heap.size Z w' → w'.cell? ⟨rl, 0, none⟩ = some (.bool n8) ∧ w'.cell? ⟨rl, 1, none⟩ = some (.slice o8 l8 c8)) := fun w' hb => ⟨(HALL.out w' hb).2.1.1 0 _ rfl, (HALL.out w' hb).2.1.1 1 _ rfl⟩
        go_cut [106] (fun s106 wx => s106 = .bool false ∧ Below Z.heap.size Z wx)
        case first =>
         refine wp_region_noPanic ?_
         refine wp_region_held_drew (S := fun w' => (w'.cell? ⟨rl, 0, none⟩ = some (.bool n8) ∧ w'.cell? ⟨rl, 1, none⟩ = some (.slice o8 l8 c8))) (by kernel_rfl) (by (try dsimp only); exact KS.out _ (Below.refl _ _).drew) (fun hHeld => ?_)
         refine wpAnyH_take (i := 0) (oi := Oper.mk (some 82) _ _ _ _ _) (v := ?_) rfl (by decide +kernel) (by decide +kernel) (by decide +kernel) (fun _ _ _ h => h) (Or.inl ⟨by rfl, ?_⟩) (by assumption) ?_
         rotate_left
         ·
          (intro w hSw; (try dsimp only at hSw); go_simp <;> (try with_reducible rfl))
         (try simp only [Act.put, List.setIfInBounds_toArray, List.set_cons_zero, List.set_cons_succ])
         refine wpAnyH_take (i := 3) (oi := Oper.mk (some 85) _ _ _ _ _) (v := ?_) rfl (by decide +kernel) (by decide +kernel) (by decide +kernel) (fun _ _ _ h => h) (Or.inl ⟨by rfl, ?_⟩) (by assumption) ?_
         rotate_left
         ·
          (intro w hSw; (try dsimp only at hSw); go_simp <;> (try with_reducible rfl))
         (try simp only [Act.put, List.setIfInBounds_toArray, List.set_cons_zero, List.set_cons_succ])
         refine wpAnyH_ready (rs := [1]) (by decide +kernel) (by simp) ?_
         refine AllReadyH.cons (o := Oper.mk (some 83) _ _ _ _ _) rfl (fun K hK => ?_) AllReadyH.nil
         go_simp
         (go_at_call 19; refine (pcheck_is oa la ca2 rs _ (HALL.out _ (Below.refl _ _).drew).2.2.1.raws (by omega) (fun t => Nat.le_trans ((HALL.out _ (Below.refl _ _).drew).2.2.1.lims t) (by decide)) sg (by rw [HMM.out.1]; exact HSG.out.1)).mono ?_; rintro e z1 ⟨rfl, hb⟩; have hz1 : Below Z.heap.size Z z1 := bnext (Below.refl _ _).drew hb; clear hb)
         (try go_wp2_with fail)
         clear hHeld
         refine hK.out _ _ (by (try dsimp only); exact KS.out _ hz1) (fun hHeld => ?_)
         clear hK K
         (try simp only [Act.put, List.setIfInBounds_toArray, List.set_cons_zero, List.set_cons_succ])
         refine wpAnyH_ready (rs := [2]) (by decide +kernel) (by simp) ?_
         refine AllReadyH.cons (o := Oper.mk (some 84) _ _ _ _ _) rfl (fun K hK => ?_) AllReadyH.nil
         go_simp
         (go_at_call 18; refine (num4_any _ _).mono ?_; rintro e z2 ⟨rfl, hb⟩; have hz2 : Below Z.heap.size Z z2 := bnext hz1 hb; clear hb)
         (try go_wp2_with fail)
         clear hHeld
         refine hK.out _ _ (by (try dsimp only); exact KS.out _ hz2) (fun hHeld => ?_)
         clear hK K
         (try simp only [Act.put, List.setIfInBounds_toArray, List.set_cons_zero, List.set_cons_succ])
         refine wpAnyH_take (i := 4) (oi := Oper.mk (some 86) _ _ _ _ _) (v := ?_) rfl (by decide +kernel) (by decide +kernel) (by decide +kernel) (fun _ _ _ h => h) (Or.inl ⟨by rfl, ?_⟩) (by assumption) ?_
         rotate_left
         ·
          (intro w hSw; (try dsimp only at hSw); go_simp <;> (try with_reducible rfl))
         (try simp only [Act.put, List.setIfInBounds_toArray, List.set_cons_zero, List.set_cons_succ])
         refine wpAnyH_take (i := 5) (oi := Oper.mk (some 87) _ _ _ _ _) (v := ?_) rfl (by decide +kernel) (by decide +kernel) (by decide +kernel) (fun _ _ _ h => h) (Or.inl ⟨by rfl, ?_⟩) (by assumption) ?_
         rotate_left
         ·
          (intro w hSw; (try dsimp only at hSw); go_simp <;> (try with_reducible rfl))
         (try simp only [Act.put, List.setIfInBounds_toArray, List.set_cons_zero, List.set_cons_succ])
         refine wpAnyH_take (i := 6) (oi := Oper.mk (some 88) _ _ _ _ _) (v := ?_) rfl (by decide +kernel) (by decide +kernel) (by decide +kernel) (fun _ _ _ h => h) (Or.inl ⟨by rfl, ?_⟩) (by assumption) ?_
         rotate_left
         ·
          (intro w hSw; (try dsimp only at hSw); go_simp <;> (try with_reducible rfl))
         (try simp only [Act.put, List.setIfInBounds_toArray, List.set_cons_zero, List.set_cons_succ])
         refine wpAnyH_take (i := 8) (oi := Oper.mk (some 90) _ _ _ _ _) (v := ?_) rfl (by decide +kernel) (by decide +kernel) (by decide +kernel) (fun _ _ _ h => h) (Or.inl ⟨by rfl, ?_⟩) (by assumption) ?_
         rotate_left
         ·
          (intro w hSw; (try dsimp only at hSw); go_simp <;> (try with_reducible rfl))
         (try simp only [Act.put, List.setIfInBounds_toArray, List.set_cons_zero, List.set_cons_succ])
         refine wpAnyH_ready (rs := [7]) (by decide +kernel) (by simp) ?_
         refine AllReadyH.cons (o := Oper.mk (some 89) _ _ _ _ _) rfl (fun K hK => ?_) AllReadyH.nil
         go_simp
         (go_at_call 20; refine (pldeg_is oa la ca2 rs mP p _ (HALL.out _ hz2).2.2.1 vd HVV.out.1).mono ?_; rintro e z3 ⟨rfl, hb⟩; have hz3 : Below Z.heap.size Z z3 := bnext hz2 hb; clear hb)
         (try go_wp2_with fail)
         clear hHeld
         refine hK.out _ _ (by (try dsimp only); exact KS.out _ hz3) (fun hHeld => ?_)
         clear hK K
         (try simp only [Act.put, List.setIfInBounds_toArray, List.set_cons_zero, List.set_cons_succ])
         refine wpAnyH_take (i := 9) (oi := Oper.mk (some 91) _ _ _ _ _) (v := ?_) rfl (by decide +kernel) (by decide +kernel) (by decide +kernel) (fun _ _ _ h => h) (Or.inl ⟨by rfl, ?_⟩) (by assumption) ?_
         rotate_left
         ·
          (intro w hSw; (try dsimp only at hSw); go_simp <;> (try with_reducible rfl))
         (try simp only [Act.put, List.setIfInBounds_toArray, List.set_cons_zero, List.set_cons_succ])
         refine wpAnyH_take (i := 10) (oi := Oper.mk (some 92) _ _ _ _ _) (v := ?_) rfl (by decide +kernel) (by decide +kernel) (by decide +kernel) (fun _ _ _ h => h) (Or.inl ⟨by rfl, ?_⟩) (by assumption) ?_
         rotate_left
         ·
          (intro w hSw; (try dsimp only at hSw); go_simp <;> (try with_reducible rfl))
         (try simp only [Act.put, List.setIfInBounds_toArray, List.set_cons_zero, List.set_cons_succ])
         refine wpAnyH_take (i := 11) (oi := Oper.mk (some 93) _ _ _ _ _) (v := ?_) rfl (by decide +kernel) (by decide +kernel) (by decide +kernel) (fun _ _ _ h => h) (Or.inl ⟨by rfl, ?_⟩) (by assumption) ?_
         rotate_left
         ·
          (intro w hSw; (try dsimp only at hSw); go_simp <;> (try with_reducible rfl))
         (try simp only [Act.put, List.setIfInBounds_toArray, List.set_cons_zero, List.set_cons_succ])
         refine wpAnyH_take (i := 12) (oi := Oper.mk (some 94) _ _ _ _ _) (v := ?_) rfl (by decide +kernel) (by decide +kernel) (by decide +kernel) (fun _ _ _ h => h) (Or.inl ⟨by rfl, ?_⟩) (by assumption) ?_
         rotate_left
         ·
          (intro w hSw; (try dsimp only at hSw); go_simp <;> (try with_reducible rfl))
         (try simp only [Act.put, List.setIfInBounds_toArray, List.set_cons_zero, List.set_cons_succ])
         refine wpAnyH_take (i := 14) (oi := Oper.mk (some 96) _ _ _ _ _) (v := ?_) rfl (by decide +kernel) (by decide +kernel) (by decide +kernel) (fun _ _ _ h => h) (Or.inl ⟨by rfl, ?_⟩) (by assumption) ?_
         rotate_left
         ·
          (intro w hSw; (try dsimp only at hSw); go_simp <;> (try with_reducible rfl))
         (try simp only [Act.put, List.setIfInBounds_toArray, List.set_cons_zero, List.set_cons_succ])
         refine wpAnyH_ready (rs := [13]) (by decide +kernel) (by simp) ?_
         refine AllReadyH.cons (o := Oper.mk (some 95) _ _ _ _ _) rfl (fun K hK => ?_) AllReadyH.nil
         go_simp
         (go_at_call 22; refine (pllead_is oa la ca2 rs mP p _ (HALL.out _ hz3).2.2.1 _ rfl).mono ?_; rintro e z4 ⟨n9, o9, l9, c9, rfl, hi9, hb⟩; have hz4 : Below Z.heap.size Z z4 := bnext hz3 hb; have H9 : Hid (IntAt z4 n9 o9 l9 c9 (if mP then dig p (la - 1) else 0)) := hi9; have hl9 : l9 ≤ 3 := (by rw [hi9.lim, ← (HALL.out _ hz4).2.1.2.lim]; exact hl8); clear hi9 hb)
         (try go_wp2_with fail)
         clear hHeld
         refine hK.out _ _ (by (try dsimp only); exact KS.out _ hz4) (fun hHeld => ?_)
         clear hK K
         (try simp only [Act.put, List.setIfInBounds_toArray, List.set_cons_zero, List.set_cons_succ])
         refine wpAnyH_ready (rs := [15]) (by decide +kernel) (by simp) ?_
         refine AllReadyH.cons (o := Oper.mk (some 97) _ _ _ _ _) rfl (fun K hK => ?_) AllReadyH.nil
         go_simp
         (go_at_call 21; refine (eqint_at n9 n8 o9 o8 l9 c9 l8 c8 _ _ _ H9.out (HALL.out _ hz4).2.1.2 (by omega) true (decide_eq_true rfl)).mono ?_; rintro e z5 ⟨rfl, hb⟩; have hz5 : Below Z.heap.size Z z5 := bnext hz4 hb; clear hb)
         (try go_wp2_with fail)
         clear hHeld
         refine hK.out _ _ (by (try dsimp only); exact KS.out _ hz5) (fun hHeld => ?_)
         clear hK K
         (try simp only [Act.put, List.setIfInBounds_toArray, List.set_cons_zero, List.set_cons_succ])
         refine wpAnyH_take (i := 16) (oi := Oper.mk (some 98) _ _ _ _ _) (v := ?_) rfl (by decide +kernel) (by decide +kernel) (by decide +kernel) (fun _ _ _ h => h) (Or.inl ⟨by rfl, ?_⟩) (by assumption) ?_
         rotate_left
         ·
          (intro w hSw; (try dsimp only at hSw); go_simp <;> (try with_reducible rfl))
         (try simp only [Act.put, List.setIfInBounds_toArray, List.set_cons_zero, List.set_cons_succ])
         refine wpAnyH_take (i := 17) (oi := Oper.mk (some 99) _ _ _ _ _) (v := ?_) rfl (by decide +kernel) (by decide +kernel) (by decide +kernel) (fun _ _ _ h => h) (Or.inl ⟨by rfl, ?_⟩) (by assumption) ?_
         rotate_left
         ·
          (intro w hSw; (try dsimp only at hSw); go_simp <;> (try with_reducible rfl))
         (try simp only [Act.put, List.setIfInBounds_toArray, List.set_cons_zero, List.set_cons_succ])
         refine wpAnyH_take (i := 18) (oi := Oper.mk (some 100) _ _ _ _ _) (v := ?_) rfl (by decide +kernel) (by decide +kernel) (by decide +kernel) (fun _ _ _ h => h) (Or.inl ⟨by rfl, ?_⟩) (by assumption) ?_
         rotate_left
         ·
          (intro w hSw; (try dsimp only at hSw); go_simp <;> (try with_reducible rfl))
         (try simp only [Act.put, List.setIfInBounds_toArray, List.set_cons_zero, List.set_cons_succ])
         refine wpAnyH_take (i := 19) (oi := Oper.mk (some 101) _ _ _ _ _) (v := ?_) rfl (by decide +kernel) (by decide +kernel) (by decide +kernel) (fun _ _ _ h => h) (Or.inl ⟨by rfl, ?_⟩) (by assumption) ?_
         rotate_left
         ·
          (intro w hSw; (try dsimp only at hSw); go_simp <;> (try with_reducible rfl))
         (try simp only [Act.put, List.setIfInBounds_toArray, List.set_cons_zero, List.set_cons_succ])
         refine wpAnyH_take (i := 20) (oi := Oper.mk (some 102) _ _ _ _ _) (v := ?_) rfl (by decide +kernel) (by decide +kernel) (by decide +kernel) (fun _ _ _ h => h) (Or.inl ⟨by rfl, ?_⟩) (by assumption) ?_
         rotate_left
         ·
          (intro w hSw; (try dsimp only at hSw); go_simp <;> (try with_reducible rfl))
         (try simp only [Act.put, List.setIfInBounds_toArray, List.set_cons_zero, List.set_cons_succ])
         refine wpAnyH_take (i := 22) (oi := Oper.mk (some 104) _ _ _ _ _) (v := ?_) rfl (by decide +kernel) (by decide +kernel) (by decide +kernel) (fun _ _ _ h => h) (Or.inl ⟨by rfl, ?_⟩) (by assumption) ?_
         rotate_left
         ·
          (intro w hSw; (try dsimp only at hSw); go_simp <;> (try with_reducible rfl))
         (try simp only [Act.put, List.setIfInBounds_toArray, List.set_cons_zero, List.set_cons_succ])
         refine wpAnyH_ready (rs := [21]) (by decide +kernel) (by simp) ?_
         refine AllReadyH.cons (o := Oper.mk (some 103) _ _ _ _ _) rfl (fun K hK => ?_) AllReadyH.nil
         go_simp
         (go_at_call 23; refine (plcmp_is oa ob la ca2 lb cb2 rs ts mP mQ p s _ (HALL.out _ hz5).2.2.1 (HALL.out _ hz5).2.2.2.1 vc HVV.out.2.1).mono ?_; rintro e z6 ⟨rfl, hb⟩; have hz6 : Below Z.heap.size Z z6 := bnext hz5 hb; clear hb)
         (try go_wp2_with fail)
         clear hHeld
         refine hK.out _ _ (by (try dsimp only); exact KS.out _ hz6) (fun hHeld => ?_)
         clear hK K
         (try simp only [Act.put, List.setIfInBounds_toArray, List.set_cons_zero, List.set_cons_succ])
         refine wpAnyH_take (i := 23) (oi := Oper.mk (some 105) _ _ _ _ _) (v := ?_) rfl (by decide +kernel) (by decide +kernel) (by decide +kernel) (fun _ _ _ h => h) (Or.inl ⟨by rfl, ?_⟩) (by assumption) ?_
         rotate_left
         ·
          (intro w hSw; (try dsimp only at hSw); go_simp <;> (try with_reducible rfl))
         (try simp only [Act.put, List.setIfInBounds_toArray, List.set_cons_zero, List.set_cons_succ])
         refine wpAnyH_take (i := 24) (oi := Oper.mk (some 106) _ _ _ _ _) (v := ?_) rfl (by decide +kernel) (by decide +kernel) (by decide +kernel) (fun _ _ _ h => h) (Or.inl ⟨by rfl, ?_⟩) (by assumption) ?_
         rotate_left
         ·
          (intro w hSw; (try dsimp only at hSw); go_simp <;> (try with_reducible rfl))
         (try simp only [Act.put, List.setIfInBounds_toArray, List.set_cons_zero, List.set_cons_succ])
         refine wpAnyH_done (by decide +kernel) ?_ _
         refine NoPanic.normal ?_
         go_wp2
         go_meet
         exact ⟨rfl, hz6⟩
        case rest => as_aux_lemma =>
         obtain ⟨rfl, hz6⟩ := hcut
         obtain ⟨z6, hz6e⟩ : ∃ Z, Z = wc := ⟨_, rfl⟩
         subst hz6e
         have HG2 : Hid (bd = 0 → mP = true ∧ mQ = true) := fun h => (by have h2 := HSG.out.2.1; rw [h] at h2; rcases bad1_cases (mP && mQ) with ⟨q, _⟩ | ⟨_, q⟩; simpa using q; exact absurd (h2.symm.trans q) (by decide))
         have HG1 : Hid (sg = 0 → mP = true) := fun h => (by have h2 := HSG.out.1; rw [h] at h2; rcases bad1_cases mP with ⟨q, _⟩ | ⟨_, q⟩; exact q; exact absurd (h2.symm.trans q) (by decide))
         have HG3 : Hid (sc = 0 → mP = true ∧ mC = true) := fun h => (by have h2 := HSG.out.2.2; rw [h] at h2; rcases bad1_cases (mP && mC) with ⟨q, _⟩ | ⟨_, q⟩; simpa using q; exact absurd (h2.symm.trans q) (by decide))
         go_wp2_with (first
          | (go_at_call 31; have _t := T7; refine (eqpoly_of (eqraws_same ob bo lb cb2 cb ts _ (HALL.out _ hze1).2.2.2.1.raws (HALL.out _ hze1).2.2.2.2.2.2.1 (by omega) (fun t => Nat.le_trans (rv_lim HLM.out.2 t) (by decide)))).mono ?_; rintro e e2 ⟨rfl, hb⟩; have hze2 : Below Z.heap.size Z e2 := bnext hze1 hb; clear hb)
          | (go_at_call 31; have _t := T6; refine (eqpoly_of (eqraws_same oa ao la ca2 ca rs _ (HALL.out _ hzb6).2.2.1.raws (HALL.out _ hzb6).2.2.2.2.2.1 (by omega) (fun t => Nat.le_trans (rv_lim HLM.out.1 t) (by decide)))).mono ?_; rintro e e1 ⟨rfl, hb⟩; have hze1 : Below Z.heap.size Z e1 := bnext hzb6 hb; clear hb T6 fq0; have fq1 := (HALL.out _ hze1).2.2.2.2.1 1 _ rfl; have T7 : Hid True := trivial)
          | (go_at_call 25; have _t := HN6; have _t2 := T5; refine (is4_any b5.heap.size sc q6 _ m6 _ _ (trimL (tab la fun i => dig p i * cv)) _ HN6.out.1 (fun h => ((HALL.out a6 (bnext hzb5 HN6.out.2)).1.2.2 h)) HN6.out.2.size (fun h => Nat.le_trans (trimTab_len _ _) (by omega)) (fun h => mulF_lim (k := 3) ((HALL.out _ hzb5).2.2.1.good (HG3.out h).1).2.2 (by rw [← ((HALL.out _ hzb5).2.2.2.2.2.2.2.2 (HG3.out h).2).lim]; exact hlc) (by decide) la)).mono ?_; rintro e b6 ⟨rfl, hb⟩; have hzb6 : Below Z.heap.size Z b6 := bnext hzb5 (HN6.out.2.trans hb); have T6 : Hid True := trivial; clear HN6 hb T5; have fq0 := (HALL.out _ hzb6).2.2.2.2.1 0 _ rfl; clear fq2 fq3)
          | (go_at_call 30; have _t := T5; refine (plscale_is oa la ca2 rs mP mC p n co lc cc zs cv _ (HALL.out _ hzb5).2.2.1 (HALL.out _ hzb5).2.2.2.2.2.2.2.1 hlc HMM.out.2.2 (HALL.out _ hzb5).2.2.2.2.2.2.2.2 sc HSG.out.2.2).mono ?_; rintro e a6 ⟨q6, m6, rfl, han, hb⟩; have HN6 : Hid (PAns b5.heap.size a6 sc q6 m6 (trimL (tab la fun i => dig p i * cv)) ∧ Below b5.heap.size b5 a6) := ⟨han, hb⟩; clear han hb)
          | (go_at_call 25; have _t := HN5; have _t2 := T4; refine (is4_any b4.heap.size sg q5 _ m5 _ _ (trimL (tab (la - 1) (derF p))) _ HN5.out.1 (fun h => ((HALL.out a5 (bnext hzb4 HN5.out.2)).1.2.1 h).2) HN5.out.2.size (fun h => Nat.le_trans (trimTab_len _ _) (by omega)) (fun h => derF_lim ((HALL.out _ hzb4).2.2.1.good (HG1.out h)).2.2 (by omega))).mono ?_; rintro e b5 ⟨rfl, hb⟩; have hzb5 : Below Z.heap.size Z b5 := bnext hzb4 (HN5.out.2.trans hb); have T5 : Hid True := trivial; clear HN5 hb T4; have fq2 := (HALL.out _ hzb5).2.2.2.2.1 2 _ rfl; have fq3 := (HALL.out _ hzb5).2.2.2.2.1 3 _ rfl)
          | (go_at_call 29; have _t := T4; refine (plder_is oa la ca2 rs mP p _ (HALL.out _ hzb4).2.2.1 sg HSG.out.1).mono ?_; rintro e a5 ⟨q5, m5, rfl, han, hb⟩; have HN5 : Hid (PAns b4.heap.size a5 sg q5 m5 (trimL (tab (la - 1) (derF p))) ∧ Below b4.heap.size b4 a5) := ⟨han, hb⟩; clear han hb)
          | (go_at_call 25; have _t := HN4; have _t2 := T3; refine (is4_any b3.heap.size sg q4 _ m4 _ _ (trimL (tab la fun i => dig p i * -1)) _ HN4.out.1 (fun h => ((HALL.out a4 (bnext hzb3 HN4.out.2)).1.2.1 h).1) HN4.out.2.size (fun h => Nat.le_trans (trimTab_len _ _) (by omega)) (fun h => mulF_lim (c := -1) (k := 1) ((HALL.out _ hzb3).2.2.1.good (HG1.out h)).2.2 (by decide) (by decide) la)).mono ?_; rintro e b4 ⟨rfl, hb⟩; have hzb4 : Below Z.heap.size Z b4 := bnext hzb3 (HN4.out.2.trans hb); have T4 : Hid True := trivial; clear HN4 hb T3)
          | (go_at_call 28; have _t := T3; refine (plneg_is oa la ca2 rs mP p _ (HALL.out _ hzb3).2.2.1 sg HSG.out.1).mono ?_; rintro e a4 ⟨q4, m4, rfl, han, hb⟩; have HN4 : Hid (PAns b3.heap.size a4 sg q4 m4 (trimL (tab la fun i => dig p i * -1)) ∧ Below b3.heap.size b3 a4) := ⟨han, hb⟩; clear han hb)
          | (go_at_call 25; have _t := HN3; have _t2 := T2; refine (is4_any b2.heap.size bd q3 _ m3 _ _ (mulP p s) _ HN3.out.1 (fun h => ((HALL.out a3 (bnext hzb2 HN3.out.2)).1.1 h).2.2.1) HN3.out.2.size (fun h => Nat.le_trans (mulP_len ((HALL.out _ hzb2).2.2.1.good (HG2.out h).1).1.hlen ((HALL.out _ hzb2).2.2.2.1.good (HG2.out h).2).1.hlen) (by omega)) (fun h => (((HALL.out a3 (bnext hzb2 HN3.out.2)).1.1 h).2.2.2).mono (by decide))).mono ?_; rintro e b3 ⟨rfl, hb⟩; have hzb3 : Below Z.heap.size Z b3 := bnext hzb2 (HN3.out.2.trans hb); have T3 : Hid True := trivial; clear HN3 hb T2)
          | (go_at_call 27; have _t := T2; refine (plmul_is oa ob la ca2 lb cb2 rs ts mP mQ p s _ (HALL.out _ hzb2).2.2.1 (HALL.out _ hzb2).2.2.2.1 bd HSG.out.2.1).mono ?_; rintro e a3 ⟨q3, m3, rfl, han, hb⟩; have HN3 : Hid (PAns b2.heap.size a3 bd q3 m3 (mulP p s) ∧ Below b2.heap.size b2 a3) := ⟨han, hb⟩; clear han hb)
          | (go_at_call 25; have _t := HN2; have _t2 := T1; refine (is4_any b1.heap.size bd q2 _ m2 _ _ (trimL (tab N fun i => dig p i - dig s i)) _ HN2.out.1 (fun h => ((HALL.out a2 (bnext hzb1 HN2.out.2)).1.1 h).2.1) HN2.out.2.size (fun h => Nat.le_trans (trimTab_len _ _) (by rw [HN.out]; omega)) (fun h => subF_lim ((HALL.out _ hzb1).2.2.1.good (HG2.out h).1).2.2 ((HALL.out _ hzb1).2.2.2.1.good (HG2.out h).2).2.2 N)).mono ?_; rintro e b2 ⟨rfl, hb⟩; have hzb2 : Below Z.heap.size Z b2 := bnext hzb1 (HN2.out.2.trans hb); have T2 : Hid True := trivial; clear HN2 hb T1)
          | (go_at_call 26; have _t := T1; refine (plsub_is oa ob la ca2 lb cb2 N rs ts mP mQ p s _ (HALL.out _ hzb1).2.2.1 (HALL.out _ hzb1).2.2.2.1 bd HSG.out.2.1 HN.out).mono ?_; rintro e a2 ⟨q2, m2, rfl, han, hb⟩; have HN2 : Hid (PAns b1.heap.size a2 bd q2 m2 (trimL (tab N fun i => dig p i - dig s i)) ∧ Below b1.heap.size b1 a2) := ⟨han, hb⟩; clear han hb)
          | (go_at_call 25; have _t := HN1; refine (is4_any z6.heap.size bd q1 _ m1 _ _ (trimL (tab N fun i => dig p i + dig s i)) _ HN1.out.1 (fun h => ((HALL.out a1 (bnext hz6 HN1.out.2)).1.1 h).1) HN1.out.2.size (fun h => Nat.le_trans (trimTab_len _ _) (by rw [HN.out]; omega)) (fun h => addF_lim ((HALL.out _ hz6).2.2.1.good (HG2.out h).1).2.2 ((HALL.out _ hz6).2.2.2.1.good (HG2.out h).2).2.2 N)).mono ?_; rintro e b1 ⟨rfl, hb⟩; have hzb1 : Below Z.heap.size Z b1 := bnext hz6 (HN1.out.2.trans hb); have T1 : Hid True := trivial; clear HN1 hb)
          | (go_at_call 24; refine (pladd_is oa ob la ca2 lb cb2 N rs ts mP mQ p s _ (HALL.out _ hz6).2.2.1 (HALL.out _ hz6).2.2.2.1 bd HSG.out.2.1 HN.out).mono ?_; rintro e a1 ⟨q1, m1, rfl, han, hb⟩; have HN1 : Hid (PAns z6.heap.size a1 bd q1 m1 (trimL (tab N fun i => dig p i + dig s i)) ∧ Below z6.heap.size z6 a1) := ⟨han, hb⟩; clear han hb))
         go_roundw
         case rel => exact ⟨k + 1, by omega, by go_num, bnext hbel (bnext HXB.out (bnext hB3 (bnext HVV.out.2.2 hze2)))⟩
         case measure => simp [intOf]; omega
   ·
    have g2 : ¬ (k : Int) < 15 := by omega
    go_wp2_with (go_at_call 32; refine (wakes4_any _).mono ?_; rintro e w1 ⟨rfl, hb1⟩)
    go_ret
    exact ⟨rfl, bnext hbel hb1⟩
  ·
   have g1 : ¬ (k : Int) < (len : Int) := by omega
   go_wp2_with (go_at_call 32; refine (wakes4_any _).mono ?_; rintro e w1 ⟨rfl, hb1⟩)
   go_ret
   exact ⟨rfl, bnext hbel hb1⟩
end Go.Proofs.YtojmlcignlcbhaaGreat
