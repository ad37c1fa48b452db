/-
  A pack of walks and facts: YN.
-/
import Derived.Test.YtgcahkhpbcklfaaGreatDoorPJ28
import Derived.Deep.DeepCutAuto
set_option maxRecDepth 100000
set_option maxHeartbeats 40000000
set_option linter.unusedVariables false
set_option linter.unusedSimpArgs false
namespace Go.Proofs.YtgcahkhpbcklfaaGreatDoor
open Go.RowKit
theorem derP_lim {A N : Nat} {p : List Int} (hp : Lim A p) (hN : p.length ≤ N) (h : N ≤ 1000 := by decide) : Lim (A + 2) (derP p) := by
 unfold derP
 refine tab_lim fun t ht => ?_
 unfold derF
 have h1 := lim_small ((t : Int) + 1) (by omega)
 exact Nat.le_trans (lim_mul _ _) (by have := hp (t + 1); omega)
theorem derP_short {p : List Int} {N : Nat} (hN : p.length ≤ N) : (derP p).length ≤ N := by unfold derP; rw [tab_len]; omega
theorem scaleF_lim {p : List Int} {c : Int} {N : Nat} (hp : Lim 3 p) (hc : lim c ≤ 40) : Lim 100000 (trimL (tab N fun i => dig p i * c)) := trimL_lim (tab_lim fun t _ => Nat.le_trans (lim_mul _ _) (by have := hp t; omega))
theorem scaleF_short {f : Nat → Int} {N : Nat} (hN : N ≤ 50) : (trimL (tab N f)).length ≤ 50 := by rw [trimL_len]; exact Nat.le_trans (trimN_le _ _) (by rw [tab_len]; exact hN)
theorem bad1_two (m : Bool) : (m = true ∧ bad1 m = 0) ∨ (m = false ∧ bad1 m = 50) := by cases m <;> simp [bad1]
theorem polyLaws_any (lo : Option Addr) (len cap : Nat) (w : World) (hE : Items5 w lo len) (hl : len ≤ 9223372036854775807) (hT : TabAt 0 Lib.deBruijn64tab w) :
  Calls Tryz.prog 3 #[.slice lo len cap] w fun e w' => e = .returned (.bool true) ∧ Below w.heap.size w w' := by
 have HE : Hid (Items5 w lo len ∧ TabAt 0 Lib.deBruijn64tab w) := ⟨hE, hT⟩
 clear hE hT
 go_enter Tryz.func3, Tryz.ntmps3
 go_wp2
 go_loopw [3] (fun i wr => ∃ k : Nat, k ≤ 15 ∧ i = .int .i64 (k : Int) ∧ Below w.heap.size w wr) (fun i _ => 15 - (intOf i).toNat)
 case atStart => exact ⟨0, Nat.zero_le _, rfl, Below.refl _ _⟩
 case round =>
  obtain ⟨k, hk, rfl, hbel⟩ := hrel
  have z0 : (0 : Int) ≤ (k : Int) := by omega
  have z1 : IntKind.i64.wrap ((k : Int) + 1) = (k : Int) + 1 := by rw [IntKind.wrap_i64]; omega
  have z2 : (0 : Int) ≤ (k : Int) + 1 := by omega
  have z3 : ((k : Int) + 1).toNat = k + 1 := by omega
  by_cases hlt : k + 1 < len
  ·
   have g1 : (k : Int) + 1 < (len : Int) := by omega
   have g3 : (k : Int) < (len : Int) := by omega
   by_cases h15 : k < 15
   ·
    have g2 : (k : Int) < 15 := by omega
    obtain ⟨b, off, rfl, hblt, hit⟩ := HE.out.1 k (by omega)
    obtain ⟨bq, offq, hbq, _, hitx⟩ := HE.out.1 (k + 1) hlt
    cases hbq
    refine hit.elim ?_
    intro ao bo co la ca lb cb lc cc n n4 n5 n6 o4 p4 o5 p5 o6 p6 l4 c4 m4 k4 l5 c5 m5 k5 l6 c6 m6 k6 rs ts zs ds ⟨hcell, ⟨hp, hs, hca, hcb⟩, hz, hzw, hd, hdw⟩
    refine hitx.elim ?_
    intro aox box cox lax cax lbx cbx lcx ccx nx n4x n5x n6x o4x p4x o5x p5x o6x p6x l4x c4x m4x k4x l5x c5x m5x k5x l6x c6x m6x k6x rsx tsx zsx dsx ⟨hcellx, ⟨hpx, hsx, hcax, hcbx⟩, _⟩
    have d0 : wr.cell? ⟨b, off + k * 13, none⟩ = some (.slice ao la ca) := (hbel.cell (p := ⟨b, off + k * 13, none⟩) hblt).trans (hcell 0 _ rfl)
    have d1 : wr.cell? ⟨b, off + k * 13 + 1, none⟩ = some (.slice bo lb cb) := (hbel.cell (p := ⟨b, off + k * 13 + 1, none⟩) hblt).trans (hcell 1 _ rfl)
    have d2 : wr.cell? ⟨b, off + k * 13 + 2, none⟩ = some (.bool n) := (hbel.cell (p := ⟨b, off + k * 13 + 2, none⟩) hblt).trans (hcell 2 _ rfl)
    have d3 : wr.cell? ⟨b, off + k * 13 + 3, none⟩ = some (.slice co lc cc) := (hbel.cell (p := ⟨b, off + k * 13 + 3, none⟩) hblt).trans (hcell 3 _ rfl)
    have d4 : wr.cell? ⟨b, off + k * 13 + 4, none⟩ = some (.bool n4) := (hbel.cell (p := ⟨b, off + k * 13 + 4, none⟩) hblt).trans (hcell 4 _ rfl)
    have d5 : wr.cell? ⟨b, off + k * 13 + 5, none⟩ = some (.slice o4 l4 c4) := (hbel.cell (p := ⟨b, off + k * 13 + 5, none⟩) hblt).trans (hcell 5 _ rfl)
    have d6 : wr.cell? ⟨b, off + k * 13 + 6, none⟩ = some (.slice p4 m4 k4) := (hbel.cell (p := ⟨b, off + k * 13 + 6, none⟩) hblt).trans (hcell 6 _ rfl)
    have d7 : wr.cell? ⟨b, off + k * 13 + 7, none⟩ = some (.bool n5) := (hbel.cell (p := ⟨b, off + k * 13 + 7, none⟩) hblt).trans (hcell 7 _ rfl)
    have d8 : wr.cell? ⟨b, off + k * 13 + 8, none⟩ = some (.slice o5 l5 c5) := (hbel.cell (p := ⟨b, off + k * 13 + 8, none⟩) hblt).trans (hcell 8 _ rfl)
    have d9 : wr.cell? ⟨b, off + k * 13 + 9, none⟩ = some (.slice p5 m5 k5) := (hbel.cell (p := ⟨b, off + k * 13 + 9, none⟩) hblt).trans (hcell 9 _ rfl)
    have d10 : wr.cell? ⟨b, off + k * 13 + 10, none⟩ = some (.bool n6) := (hbel.cell (p := ⟨b, off + k * 13 + 10, none⟩) hblt).trans (hcell 10 _ rfl)
    have d11 : wr.cell? ⟨b, off + k * 13 + 11, none⟩ = some (.slice o6 l6 c6) := (hbel.cell (p := ⟨b, off + k * 13 + 11, none⟩) hblt).trans (hcell 11 _ rfl)
    have d12 : wr.cell? ⟨b, off + k * 13 + 12, none⟩ = some (.slice p6 m6 k6) := (hbel.cell (p := ⟨b, off + k * 13 + 12, none⟩) hblt).trans (hcell 12 _ rfl)
    obtain ⟨X, hX⟩ : ∃ X, X = wr.alloc (.cells #[.slice ao la ca, .slice bo lb cb, .bool n, .slice co lc cc, .bool n4, .slice o4 l4 c4, .slice p4 m4 k4, .bool n5, .slice o5 l5 c5, .slice p5 m5 k5, .bool n6, .slice o6 l6 c6, .slice p6 m6 k6] 34) := ⟨_, rfl⟩
    have HXB : Hid (Below wr.heap.size wr X ∧ Below w.heap.size w X) := by rw [hX]; exact ⟨(Below.refl _ _).alloc (Nat.le_refl _) _, bnext hbel ((Below.refl _ _).alloc (Nat.le_refl _) _)⟩
    have HCL : Hid (∀ V, Below X.heap.size X V → Cells V wr.heap.size [.slice ao la ca, .slice bo lb cb, .bool n, .slice co lc cc, .bool n4, .slice o4 l4 c4, .slice p4 m4 k4, .bool n5, .slice o5 l5 c5, .slice p5 m5 k5, .bool n6, .slice o6 l6 c6, .slice p6 m6 k6]) := by
     rw [hX]
     exact fun V hb => (Cells.new wr #[.slice ao la ca, .slice bo lb cb, .bool n, .slice co lc cc, .bool n4, .slice o4 l4 c4, .slice p4 m4 k4, .bool n5, .slice o5 l5 c5, .slice p5 m5 k5, .bool n6, .slice o6 l6 c6, .slice p6 m6 k6] 34).later hb (by simp)
    have HCX : Hid (∀ V, Below X.heap.size X V → ∀ (j : Nat) (u : Value), [.slice aox lax cax, .slice box lbx cbx, .bool nx, .slice cox lcx ccx, .bool n4x, .slice o4x l4x c4x, .slice p4x m4x k4x, .bool n5x, .slice o5x l5x c5x, .slice p5x m5x k5x, .bool n6x, .slice o6x l6x c6x, .slice p6x m6x k6x][j]? = some u → V.cell? ⟨b, off + (k + 1) * 13 + j, none⟩ = some u) := fun V hV j u hj => ((bnext HXB.out.2 hV).cell (p := ⟨b, off + (k + 1) * 13 + j, none⟩) hblt).trans (hcellx j u hj)
    have HP0 : Hid (RawsAt X ao la ca rs ∧ RawsAt X bo lb cb ts ∧ RowAt X .u64 o4 l4 c4 zs ∧ RowAt X .u64 p4 m4 k4 ds ∧ RawsAt X aox lax cax rsx ∧ RawsAt X box lbx cbx tsx ∧ TabAt 0 Lib.deBruijn64tab X) := ⟨hp.later HXB.out.2, hs.later HXB.out.2, hz.later HXB.out.2, hd.later HXB.out.2, hpx.later HXB.out.2, hsx.later HXB.out.2, tab_later HE.out.2 HXB.out.2⟩
    have HW0 : Hid ((la ≤ 9223372036854775807 ∧ lb ≤ 9223372036854775807 ∧ lax ≤ 9223372036854775807 ∧ lbx ≤ 9223372036854775807) ∧ Wd 18446744073709551616 zs ∧ Wd 18446744073709551616 ds) := ⟨⟨Nat.le_trans hp.hcap hca, Nat.le_trans hs.hcap hcb, Nat.le_trans hpx.hcap hcax, Nat.le_trans hsx.hcap hcbx⟩, hzw, hdw⟩
    clear hcell hcellx hp hs hpx hsx hz hd hzw hdw hca hcb hcax hcbx hit hitx
    go_upto_region 5 with fail
    rw [← hX]
    clear hX d0 d1 d2 d3 d4 d5 d6 d7 d8 d9 d10 d11 d12
    go_cut [50] (fun s50 wx => ∃ hb, s50 = .bool hb ∧ (hb = false → (heavyB 10 3 la rs = false ∧ heavyB 10 3 lb ts = false ∧ l4 ≤ 2 ∧ m4 ≤ 2) ∧ heavyB 10 3 lax rsx = false) ∧ Below X.heap.size X wx)
    case first => as_aux_lemma =>
     have fq0 := HCL.out X (Below.refl _ _) 0 _ rfl; have fq1 := HCL.out X (Below.refl _ _) 1 _ rfl; have fq2 := HCL.out X (Below.refl _ _) 2 _ rfl; have fq3 := HCL.out X (Below.refl _ _) 3 _ rfl; have fq4 := HCL.out X (Below.refl _ _) 4 _ rfl; have fq5 := HCL.out X (Below.refl _ _) 5 _ rfl; have fq6 := HCL.out X (Below.refl _ _) 6 _ rfl; have fq7 := HCL.out X (Below.refl _ _) 7 _ rfl; have fq8 := HCL.out X (Below.refl _ _) 8 _ rfl; have fq9 := HCL.out X (Below.refl _ _) 9 _ rfl; have fq10 := HCL.out X (Below.refl _ _) 10 _ rfl; have fq11 := HCL.out X (Below.refl _ _) 11 _ rfl; have fq12 := HCL.out X (Below.refl _ _) 12 _ rfl
     go_wp2_with (first
      | (go_at_call 4; have _t := H1'; refine (heavy4s_any aox box cox lax cax lbx cbx lcx ccx nx n4x n5x n6x o4x p4x o5x p5x o6x p6x l4x c4x m4x k4x l5x c5x m5x k5x l6x c6x m6x k6x rsx tsx _ (HP0.out.2.2.2.2.1.later hb1) (HP0.out.2.2.2.2.2.1.later hb1) HW0.out.1.2.2.1 HW0.out.1.2.2.2).mono ?_; rintro e x2 ⟨hv2, rfl, hcond2, hb2'⟩; have hb2 := bnext hb1 hb2'; have H2 : Hid (hv2 = false → heavyB 10 3 lax rsx = false) := (fun q => (hcond2 q).1); clear hcond2 hb2')
      | (go_at_call 4; refine (heavy4s_any ao bo co la ca lb cb lc cc n n4 n5 n6 o4 p4 o5 p5 o6 p6 l4 c4 m4 k4 l5 c5 m5 k5 l6 c6 m6 k6 rs ts _ HP0.out.1 HP0.out.2.1 HW0.out.1.1 HW0.out.1.2.1).mono ?_; rintro e x1 ⟨hv, rfl, hcond, hb1⟩; have H1 : Hid (hv = false → heavyB 10 3 la rs = false ∧ heavyB 10 3 lb ts = false ∧ l4 ≤ 2 ∧ m4 ≤ 2) := (fun q => ⟨(hcond q).1, (hcond q).2.1, (hcond q).2.2.2⟩); clear hcond fq0 fq1 fq2 fq3 fq4 fq5 fq6 fq7 fq8 fq9 fq10 fq11 fq12; have fx0 : (x1).cell? ⟨b, off + (k + 1) * 13, none⟩ = some (.slice aox lax cax) := HCX.out x1 hb1 0 _ rfl; have fx1 : (x1).cell? ⟨b, off + (k + 1) * 13 + 1, none⟩ = some (.slice box lbx cbx) := HCX.out x1 hb1 1 _ rfl; have fx2 : (x1).cell? ⟨b, off + (k + 1) * 13 + 2, none⟩ = some (.bool nx) := HCX.out x1 hb1 2 _ rfl; have fx3 : (x1).cell? ⟨b, off + (k + 1) * 13 + 3, none⟩ = some (.slice cox lcx ccx) := HCX.out x1 hb1 3 _ rfl; have fx4 : (x1).cell? ⟨b, off + (k + 1) * 13 + 4, none⟩ = some (.bool n4x) := HCX.out x1 hb1 4 _ rfl; have fx5 : (x1).cell? ⟨b, off + (k + 1) * 13 + 5, none⟩ = some (.slice o4x l4x c4x) := HCX.out x1 hb1 5 _ rfl; have fx6 : (x1).cell? ⟨b, off + (k + 1) * 13 + 6, none⟩ = some (.slice p4x m4x k4x) := HCX.out x1 hb1 6 _ rfl; have fx7 : (x1).cell? ⟨b, off + (k + 1) * 13 + 7, none⟩ = some (.bool n5x) := HCX.out x1 hb1 7 _ rfl; have fx8 : (x1).cell? ⟨b, off + (k + 1) * 13 + 8, none⟩ = some (.slice o5x l5x c5x) := HCX.out x1 hb1 8 _ rfl; have fx9 : (x1).cell? ⟨b, off + (k + 1) * 13 + 9, none⟩ = some (.slice p5x m5x k5x) := HCX.out x1 hb1 9 _ rfl; have fx10 : (x1).cell? ⟨b, off + (k + 1) * 13 + 10, none⟩ = some (.bool n6x) := HCX.out x1 hb1 10 _ rfl; have fx11 : (x1).cell? ⟨b, off + (k + 1) * 13 + 11, none⟩ = some (.slice o6x l6x c6x) := HCX.out x1 hb1 11 _ rfl; have fx12 : (x1).cell? ⟨b, off + (k + 1) * 13 + 12, none⟩ = some (.slice p6x m6x k6x) := HCX.out x1 hb1 12 _ rfl; cases hv <;> first | (have H1' : Hid (heavyB 10 3 la rs = false ∧ heavyB 10 3 lb ts = false ∧ l4 ≤ 2 ∧ m4 ≤ 2) := H1.out rfl; clear H1) | clear H1))
     all_goals go_meet
     all_goals first
      | exact ⟨_, rfl, fun h => ⟨H1'.out, H2.out h⟩, hb2⟩
      | exact ⟨_, rfl, fun h => (by cases h), hb1⟩
    case rest => as_aux_lemma =>
     obtain ⟨hb, rfl, hcond, hBy⟩ := hcut
     obtain ⟨Y, hY⟩ : ∃ Y, Y = wc := ⟨_, rfl⟩
     subst hY
     cases hb
     rotate_left
     ·
      go_wp2
      go_ret
      exact ⟨rfl, bnext HXB.out.2 hBy⟩
     obtain ⟨⟨hP, hQ, hl4, hm4⟩, hC⟩ := hcond rfl
     obtain ⟨hla, hlimP⟩ := heavyB_false hP
     obtain ⟨hlb, hlimQ⟩ := heavyB_false hQ
     obtain ⟨hlax, hlimC⟩ := heavyB_false hC
     replace hla : la ≤ 11 := hla
     replace hlb : lb ≤ 11 := hlb
     replace hlax : lax ≤ 11 := hlax
     have HLM : Hid ((∀ r ∈ rs, r.2.length ≤ 3) ∧ (∀ r ∈ ts, r.2.length ≤ 3) ∧ (∀ r ∈ rsx, r.2.length ≤ 3)) := ⟨hlimP, hlimQ, hlimC⟩
     have HBY : Hid (Below X.heap.size X Y) := hBy
     clear hP hQ hC hlimP hlimQ hlimC hcond
     obtain ⟨mP, hmP⟩ : ∃ m, pmayB la rs = m := ⟨_, rfl⟩
     obtain ⟨mQ, hmQ⟩ : ∃ m, pmayB lb ts = m := ⟨_, rfl⟩
     obtain ⟨mC, hmC⟩ : ∃ m, pmayB lax rsx = m := ⟨_, rfl⟩
     obtain ⟨mA, hmA⟩ : ∃ m, mayR n4 zs ds = m := ⟨_, rfl⟩
     have HMM : Hid (pmayB la rs = mP ∧ pmayB lb ts = mQ ∧ pmayB lax rsx = mC ∧ mayR n4 zs ds = mA) := ⟨hmP, hmQ, hmC, hmA⟩
     clear hmP hmQ hmC hmA
     have fx0 : (Y).cell? ⟨b, off + (k + 1) * 13, none⟩ = some (.slice aox lax cax) := HCX.out Y hBy 0 _ rfl
     go_upto_region 8 with fail
     clear fx0
     go_cut [70] (fun s70 wx => ∃ hb, s70 = .bool hb ∧ (hb = false → mP = true ∧ mQ = true ∧ mC = true ∧ mA = true) ∧ Below Y.heap.size Y wx)
     case first => as_aux_lemma =>
      have fq0 := HCL.out Y HBY.out 0 _ rfl; have fq1 := HCL.out Y HBY.out 1 _ rfl; have fq2 := HCL.out Y HBY.out 2 _ rfl; have fq3 := HCL.out Y HBY.out 3 _ rfl; have fq4 := HCL.out Y HBY.out 4 _ rfl; have fq5 := HCL.out Y HBY.out 5 _ rfl; have fq6 := HCL.out Y HBY.out 6 _ rfl; have fq7 := HCL.out Y HBY.out 7 _ rfl; have fq8 := HCL.out Y HBY.out 8 _ rfl; have fq9 := HCL.out Y HBY.out 9 _ rfl; have fq10 := HCL.out Y HBY.out 10 _ rfl; have fq11 := HCL.out Y HBY.out 11 _ rfl; have fq12 := HCL.out Y HBY.out 12 _ rfl
      rcases bad1_two (mP && mQ) with ⟨q, qc⟩ | ⟨q, qc⟩
      ·
       have HQ : Hid (mP = true ∧ mQ = true) := by show _ ∧ _; simpa using q
       have HBD : Hid (bad1 (mP && mQ) = 0) := qc
       clear q qc
       cases hmc : mC
       ·
        have HM3 : Hid (pmayB lax rsx = false) := by rw [← hmc]; exact HMM.out.2.2.1
        clear hmc
        go_wp2_with (first
         | (go_at_call 6; refine (pmay_any aox lax cax rsx _ (HP0.out.2.2.2.2.1.later (bnext HBY.out hb1)) (by omega) (fun r hr => Nat.le_trans (HLM.out.2.2 r hr) (by decide)) false HM3.out).mono ?_; rintro e y2 ⟨rfl, hb2'⟩; have hb2 := bnext hb1 hb2'; clear hb2' fq4 fq5 fq6; have fq4 := HCL.out y2 (bnext HBY.out hb2) 4 _ rfl; have fq5 := HCL.out y2 (bnext HBY.out hb2) 5 _ rfl; have fq6 := HCL.out y2 (bnext HBY.out hb2) 6 _ rfl)
         | (go_at_call 5; refine (two4_any ao bo co la ca lb cb lc cc n n4 n5 n6 o4 p4 o5 p5 o6 p6 l4 c4 m4 k4 l5 c5 m5 k5 l6 c6 m6 k6 rs ts _ (HP0.out.1.later HBY.out) (HP0.out.2.1.later HBY.out) (by omega) (by omega) HLM.out.1 HLM.out.2.1 mP mQ HMM.out.1 HMM.out.2.1 0 HBD.out).mono ?_; rintro e y1 ⟨rfl, hb1⟩; clear fq0 fq1 fq2 fq3 fq4 fq5 fq6 fq7 fq8 fq9 fq10 fq11 fq12; have fq4 := HCL.out y1 (bnext HBY.out hb1) 4 _ rfl; have fq5 := HCL.out y1 (bnext HBY.out hb1) 5 _ rfl; have fq6 := HCL.out y1 (bnext HBY.out hb1) 6 _ rfl))
        go_meet
        exact ⟨true, rfl, fun h => (by cases h), hb2⟩
       ·
        have HM3 : Hid (pmayB lax rsx = true) := by rw [← hmc]; exact HMM.out.2.2.1
        have HMC : Hid (mC = true) := hmc
        clear hmc
        go_wp2_with (first
         | (go_at_call 7; refine (qmay_any n4 o4 p4 l4 c4 m4 k4 zs ds _ (HP0.out.2.2.1.later (bnext HBY.out hb2)) HW0.out.2.1 (HP0.out.2.2.2.1.later (bnext HBY.out hb2)) HW0.out.2.2 (by omega) (by omega) mA HMM.out.2.2.2).mono ?_; rintro e y3 ⟨rfl, hb3'⟩; have hb3 := bnext hb2 hb3'; clear hb3' fq4 fq5 fq6)
         | (go_at_call 6; refine (pmay_any aox lax cax rsx _ (HP0.out.2.2.2.2.1.later (bnext HBY.out hb1)) (by omega) (fun r hr => Nat.le_trans (HLM.out.2.2 r hr) (by decide)) true HM3.out).mono ?_; rintro e y2 ⟨rfl, hb2'⟩; have hb2 := bnext hb1 hb2'; clear hb2' fq4 fq5 fq6; have fq4 := HCL.out y2 (bnext HBY.out hb2) 4 _ rfl; have fq5 := HCL.out y2 (bnext HBY.out hb2) 5 _ rfl; have fq6 := HCL.out y2 (bnext HBY.out hb2) 6 _ rfl)
         | (go_at_call 5; refine (two4_any ao bo co la ca lb cb lc cc n n4 n5 n6 o4 p4 o5 p5 o6 p6 l4 c4 m4 k4 l5 c5 m5 k5 l6 c6 m6 k6 rs ts _ (HP0.out.1.later HBY.out) (HP0.out.2.1.later HBY.out) (by omega) (by omega) HLM.out.1 HLM.out.2.1 mP mQ HMM.out.1 HMM.out.2.1 0 HBD.out).mono ?_; rintro e y1 ⟨rfl, hb1⟩; clear fq0 fq1 fq2 fq3 fq4 fq5 fq6 fq7 fq8 fq9 fq10 fq11 fq12; have fq4 := HCL.out y1 (bnext HBY.out hb1) 4 _ rfl; have fq5 := HCL.out y1 (bnext HBY.out hb1) 5 _ rfl; have fq6 := HCL.out y1 (bnext HBY.out hb1) 6 _ rfl))
        go_meet
        exact ⟨_, rfl, fun h => ⟨HQ.out.1, HQ.out.2, HMC.out, by simpa using h⟩, hb3⟩
      ·
       have HBD : Hid (bad1 (mP && mQ) = 50) := qc
       clear q qc
       go_wp2_with (go_at_call 5; refine (two4_any ao bo co la ca lb cb lc cc n n4 n5 n6 o4 p4 o5 p5 o6 p6 l4 c4 m4 k4 l5 c5 m5 k5 l6 c6 m6 k6 rs ts _ (HP0.out.1.later HBY.out) (HP0.out.2.1.later HBY.out) (by omega) (by omega) HLM.out.1 HLM.out.2.1 mP mQ HMM.out.1 HMM.out.2.1 50 HBD.out).mono ?_; rintro e y1 ⟨rfl, hb1⟩; clear fq0 fq1 fq2 fq3 fq4 fq5 fq6 fq7 fq8 fq9 fq10 fq11 fq12; have fq4 := HCL.out y1 (bnext HBY.out hb1) 4 _ rfl; have fq5 := HCL.out y1 (bnext HBY.out hb1) 5 _ rfl; have fq6 := HCL.out y1 (bnext HBY.out hb1) 6 _ rfl)
       go_meet
       exact ⟨true, rfl, fun h => (by cases h), hb1⟩
     case rest => as_aux_lemma =>
      obtain ⟨hb, rfl, hcond, hBz⟩ := hcut
      obtain ⟨Z, hZ⟩ : ∃ Z, Z = wc := ⟨_, rfl⟩
      subst hZ
      have HXZ : Hid (Below X.heap.size X Z) := bnext HBY.out hBz
      cases hb
      rotate_left
      ·
       go_wp2
       go_roundw
       case rel => exact ⟨k + 1, by omega, by go_num, bnext HXB.out.2 HXZ.out⟩
       case measure => simp [intOf]; omega
      obtain ⟨qP, qQ, qC, qA⟩ := hcond rfl
      clear hcond hBz hBy
      obtain ⟨p, hp⟩ := parg_of_raws HP0.out.1 hla (rv_lim HLM.out.1)
      obtain ⟨s, hs⟩ := parg_of_raws HP0.out.2.1 hlb (rv_lim HLM.out.2.1)
      obtain ⟨u, hu⟩ := parg_of_raws HP0.out.2.2.2.2.1 hlax (rv_lim HLM.out.2.2)
      rw [HMM.out.1] at hp; rw [HMM.out.2.1] at hs; rw [HMM.out.2.2.1] at hu
      obtain ⟨a, ha, hza, hda⟩ := rat_of_may HP0.out.2.2.1 HW0.out.2.1 HP0.out.2.2.2.1 HW0.out.2.2 (HMM.out.2.2.2.trans qA)
      have HG : Hid (∀ V, Below Z.heap.size Z V → GP V ao la ca 3 p ∧ GP V bo lb cb 3 s ∧ GP V aox lax cax 3 u ∧ RatAt V n4 o4 l4 c4 p4 m4 k4 a ∧ TabAt 0 Lib.deBruijn64tab V ∧ Cells V wr.heap.size [.slice ao la ca, .slice bo lb cb, .bool n, .slice co lc cc, .bool n4, .slice o4 l4 c4, .slice p4 m4 k4, .bool n5, .slice o5 l5 c5, .slice p5 m5 k5, .bool n6, .slice o6 l6 c6, .slice p6 m6 k6]) := fun V hV => by
       have h := bnext HXZ.out hV
       obtain ⟨a1, a2, a3⟩ := (hp.later h).good qP
       obtain ⟨b1, b2, b3⟩ := (hs.later h).good qQ
       obtain ⟨c1, c2, c3⟩ := (hu.later h).good qC
       exact ⟨⟨a1, a2, a3, by omega, by decide⟩, ⟨b1, b2, b3, by omega, by decide⟩, ⟨c1, c2, c3, by omega, by decide⟩, ha.later h, tab_later HP0.out.2.2.2.2.2.2 h, HCL.out V h⟩
      have HF : Hid ((Lead p ∧ Lim 3 p ∧ p.length ≤ 11) ∧ (Lead s ∧ Lim 3 s ∧ s.length ≤ 11) ∧ (Lead u ∧ Lim 3 u ∧ u.length ≤ 11) ∧ (lim a.num ≤ 2 ∧ lim (a.den : Int) ≤ 2) ∧ la = p.length ∧ lb = s.length) := by
       obtain ⟨a1, a2, a3⟩ := hp.good qP
       obtain ⟨b1, b2, b3⟩ := hs.good qQ
       obtain ⟨c1, c2, c3⟩ := hu.good qC
       have h1 := a1.hlen; have h2 := b1.hlen; have h3 := c1.hlen
       have h4 := ha.num.lim
       have h5 := (row_int ha.den).lim
       exact ⟨⟨a2, a3, by omega⟩, ⟨b2, b3, by omega⟩, ⟨c2, c3, by omega⟩, ⟨by omega, by omega⟩, h1, h2⟩
      clear hp hs hu ha hza hda qP qQ qC qA HMM HLM HW0 HCX HP0
      have fq0 := (HG.out Z (Below.refl _ _)).2.2.2.2.2 0 _ rfl; have fq1 := (HG.out Z (Below.refl _ _)).2.2.2.2.2 1 _ rfl
      go_upto_region 11 with fail
      clear fq0 fq1
      go_cut [112] (fun s112 wx => s112 = .bool false ∧ Below Z.heap.size Z wx)
      case first => as_aux_lemma =>
       have Tv0 : Hid True := trivial
       go_wp2_with (first
        | (go_at_call 8; have _t := Tv13; clear _t; refine (eqpolys_at ov11 ov13 lv11 lv11 lv13 lv13 10000 _ _ _ (Gv11.out _ (bnext qv12 qv13)) (Gv13.out _ (Below.refl _ _)) (poly_assoc HF.out.1.1 HF.out.2.1.1 HF.out.2.2.1.1)).mono ?_; rintro e v14 ⟨rfl, hb⟩; have hv14 : Below Z.heap.size Z v14 := bnext hv13 hb; have qv14 := hb; clear hb; have Tv14 : Hid True := trivial; clear Tv13)
        | (go_at_call 9; have _t := Tv12; clear _t; refine (mul4_any ao ov12 la ca lv12 lv12 10000 _ _ _ ((HG.out _ hv12).1.mono (by decide) (by decide) : GP _ _ _ _ 10000 _) (Gv12.out _ (Below.refl _ _))).mono ?_; rintro e v13 ⟨ov13, lv13, rfl, hpa, hb⟩; have hv13 : Below Z.heap.size Z v13 := bnext hv12 hb; have qv13 := hb; clear hb; have Gv13 : Hid (∀ V, Below v13.heap.size v13 V → GP V ov13 lv13 lv13 10000 (mulP p (mulP s u))) := (fun V hV => GP.mk' (hpa.later hV) (mulP_lead HF.out.1.1 (mulP_lead HF.out.2.1.1 HF.out.2.2.1.1)) (((mulP_lim HF.out.1.2.1 (mulP_lim HF.out.2.1.2.1 HF.out.2.2.1.2.1 HF.out.2.1.2.2) HF.out.1.2.2)).mono (by decide)) (Nat.le_trans (mulP_short HF.out.1.2.2 (mulP_short HF.out.2.1.2.2 HF.out.2.2.1.2.2)) (by decide)) (by decide)); clear hpa; have Tv13 : Hid True := trivial; clear Tv12)
        | (go_at_call 9; have _t := Tv11; clear _t; refine (mul4_any bo aox lb cb lax cax 10000 _ _ _ ((HG.out _ hv11).2.1.mono (by decide) (by decide) : GP _ _ _ _ 10000 _) ((HG.out _ hv11).2.2.1.mono (by decide) (by decide) : GP _ _ _ _ 10000 _)).mono ?_; rintro e v12 ⟨ov12, lv12, rfl, hpa, hb⟩; have hv12 : Below Z.heap.size Z v12 := bnext hv11 hb; have qv12 := hb; clear hb; have Gv12 : Hid (∀ V, Below v12.heap.size v12 V → GP V ov12 lv12 lv12 10000 (mulP s u)) := (fun V hV => GP.mk' (hpa.later hV) (mulP_lead HF.out.2.1.1 HF.out.2.2.1.1) (((mulP_lim HF.out.2.1.2.1 HF.out.2.2.1.2.1 HF.out.2.1.2.2)).mono (by decide)) (Nat.le_trans (mulP_short HF.out.2.1.2.2 HF.out.2.2.1.2.2) (by decide)) (by decide)); clear hpa; have Tv12 : Hid True := trivial; clear Tv11)
        | (go_at_call 9; have _t := Tv10; clear _t; refine (mul4_any ov10 aox lv10 lv10 lax cax 10000 _ _ _ (Gv10.out _ (Below.refl _ _)) ((HG.out _ hv10).2.2.1.mono (by decide) (by decide) : GP _ _ _ _ 10000 _)).mono ?_; rintro e v11 ⟨ov11, lv11, rfl, hpa, hb⟩; have hv11 : Below Z.heap.size Z v11 := bnext hv10 hb; have qv11 := hb; clear hb; have Gv11 : Hid (∀ V, Below v11.heap.size v11 V → GP V ov11 lv11 lv11 10000 (mulP (mulP p s) u)) := (fun V hV => GP.mk' (hpa.later hV) (mulP_lead (mulP_lead HF.out.1.1 HF.out.2.1.1) HF.out.2.2.1.1) (((mulP_lim (mulP_lim HF.out.1.2.1 HF.out.2.1.2.1 HF.out.1.2.2) HF.out.2.2.1.2.1 (mulP_short HF.out.1.2.2 HF.out.2.1.2.2))).mono (by decide)) (Nat.le_trans (mulP_short (mulP_short HF.out.1.2.2 HF.out.2.1.2.2) HF.out.2.2.1.2.2) (by decide)) (by decide)); clear hpa; have Tv11 : Hid True := trivial; clear Tv10)
        | (go_at_call 9; have _t := Tv9; clear _t; refine (mul4_any ao bo la ca lb cb 10000 _ _ _ ((HG.out _ hv9).1.mono (by decide) (by decide) : GP _ _ _ _ 10000 _) ((HG.out _ hv9).2.1.mono (by decide) (by decide) : GP _ _ _ _ 10000 _)).mono ?_; rintro e v10 ⟨ov10, lv10, rfl, hpa, hb⟩; have hv10 : Below Z.heap.size Z v10 := bnext hv9 hb; have qv10 := hb; clear hb; have Gv10 : Hid (∀ V, Below v10.heap.size v10 V → GP V ov10 lv10 lv10 10000 (mulP p s)) := (fun V hV => GP.mk' (hpa.later hV) (mulP_lead HF.out.1.1 HF.out.2.1.1) (((mulP_lim HF.out.1.2.1 HF.out.2.1.2.1 HF.out.1.2.2)).mono (by decide)) (Nat.le_trans (mulP_short HF.out.1.2.2 HF.out.2.1.2.2) (by decide)) (by decide)); clear hpa; have Tv10 : Hid True := trivial; clear Tv9)
        | (go_at_call 8; have _t := Tv8; clear _t; refine (eqpolys_at ov7 ov8 lv7 lv7 lv8 lv8 10000 _ _ _ (Gv7.out _ qv8) (Gv8.out _ (Below.refl _ _)) (poly_comm HF.out.1.1 HF.out.2.1.1)).mono ?_; rintro e v9 ⟨rfl, hb⟩; have hv9 : Below Z.heap.size Z v9 := bnext hv8 hb; have qv9 := hb; clear hb; have Tv9 : Hid True := trivial; clear Tv8)
        | (go_at_call 9; have _t := Tv7; clear _t; refine (mul4_any bo ao lb cb la ca 10000 _ _ _ ((HG.out _ hv7).2.1.mono (by decide) (by decide) : GP _ _ _ _ 10000 _) ((HG.out _ hv7).1.mono (by decide) (by decide) : GP _ _ _ _ 10000 _)).mono ?_; rintro e v8 ⟨ov8, lv8, rfl, hpa, hb⟩; have hv8 : Below Z.heap.size Z v8 := bnext hv7 hb; have qv8 := hb; clear hb; have Gv8 : Hid (∀ V, Below v8.heap.size v8 V → GP V ov8 lv8 lv8 10000 (mulP s p)) := (fun V hV => GP.mk' (hpa.later hV) (mulP_lead HF.out.2.1.1 HF.out.1.1) (((mulP_lim HF.out.2.1.2.1 HF.out.1.2.1 HF.out.2.1.2.2)).mono (by decide)) (Nat.le_trans (mulP_short HF.out.2.1.2.2 HF.out.1.2.2) (by decide)) (by decide)); clear hpa; have Tv8 : Hid True := trivial; clear Tv7)
        | (go_at_call 9; have _t := Tv6; clear _t; refine (mul4_any ao bo la ca lb cb 10000 _ _ _ ((HG.out _ hv6).1.mono (by decide) (by decide) : GP _ _ _ _ 10000 _) ((HG.out _ hv6).2.1.mono (by decide) (by decide) : GP _ _ _ _ 10000 _)).mono ?_; rintro e v7 ⟨ov7, lv7, rfl, hpa, hb⟩; have hv7 : Below Z.heap.size Z v7 := bnext hv6 hb; have qv7 := hb; clear hb; have Gv7 : Hid (∀ V, Below v7.heap.size v7 V → GP V ov7 lv7 lv7 10000 (mulP p s)) := (fun V hV => GP.mk' (hpa.later hV) (mulP_lead HF.out.1.1 HF.out.2.1.1) (((mulP_lim HF.out.1.2.1 HF.out.2.1.2.1 HF.out.1.2.2)).mono (by decide)) (Nat.le_trans (mulP_short HF.out.1.2.2 HF.out.2.1.2.2) (by decide)) (by decide)); clear hpa; have Tv7 : Hid True := trivial; clear Tv6)
        | (go_at_call 8; have _t := Tv5; clear _t; refine (eqpolys_at ov2 ov5 lv2 lv2 lv5 lv5 10000 _ _ _ (Gv2.out _ (bnext (bnext qv3 qv4) qv5)) (Gv5.out _ (Below.refl _ _)) (poly_dist HF.out.1.1)).mono ?_; rintro e v6 ⟨rfl, hb⟩; have hv6 : Below Z.heap.size Z v6 := bnext hv5 hb; have qv6 := hb; clear hb; have Tv6 : Hid True := trivial; clear Tv5)
        | (go_at_call 10; have _t := Tv4; clear _t; refine (add4_any ov3 ov4 lv3 lv3 lv4 lv4 10000 _ _ _ (Gv3.out _ qv4) (Gv4.out _ (Below.refl _ _))).mono ?_; rintro e v5 ⟨ov5, lv5, rfl, hpa, hb⟩; have hv5 : Below Z.heap.size Z v5 := bnext hv4 hb; have qv5 := hb; clear hb; have Gv5 : Hid (∀ V, Below v5.heap.size v5 V → GP V ov5 lv5 lv5 10000 (addP (mulP p s) (mulP p u))) := (fun V hV => GP.mk' (hpa.later hV) (addP_lead _ _) (((addP_lim (mulP_lim HF.out.1.2.1 HF.out.2.1.2.1 HF.out.1.2.2) (mulP_lim HF.out.1.2.1 HF.out.2.2.1.2.1 HF.out.1.2.2))).mono (by decide)) (Nat.le_trans (addP_short (mulP_short HF.out.1.2.2 HF.out.2.1.2.2) (mulP_short HF.out.1.2.2 HF.out.2.2.1.2.2)) (by decide)) (by decide)); clear hpa; have Tv5 : Hid True := trivial; clear Tv4)
        | (go_at_call 9; have _t := Tv3; clear _t; refine (mul4_any ao aox la ca lax cax 10000 _ _ _ ((HG.out _ hv3).1.mono (by decide) (by decide) : GP _ _ _ _ 10000 _) ((HG.out _ hv3).2.2.1.mono (by decide) (by decide) : GP _ _ _ _ 10000 _)).mono ?_; rintro e v4 ⟨ov4, lv4, rfl, hpa, hb⟩; have hv4 : Below Z.heap.size Z v4 := bnext hv3 hb; have qv4 := hb; clear hb; have Gv4 : Hid (∀ V, Below v4.heap.size v4 V → GP V ov4 lv4 lv4 10000 (mulP p u)) := (fun V hV => GP.mk' (hpa.later hV) (mulP_lead HF.out.1.1 HF.out.2.2.1.1) (((mulP_lim HF.out.1.2.1 HF.out.2.2.1.2.1 HF.out.1.2.2)).mono (by decide)) (Nat.le_trans (mulP_short HF.out.1.2.2 HF.out.2.2.1.2.2) (by decide)) (by decide)); clear hpa; have Tv4 : Hid True := trivial; clear Tv3)
        | (go_at_call 9; have _t := Tv2; clear _t; refine (mul4_any ao bo la ca lb cb 10000 _ _ _ ((HG.out _ hv2).1.mono (by decide) (by decide) : GP _ _ _ _ 10000 _) ((HG.out _ hv2).2.1.mono (by decide) (by decide) : GP _ _ _ _ 10000 _)).mono ?_; rintro e v3 ⟨ov3, lv3, rfl, hpa, hb⟩; have hv3 : Below Z.heap.size Z v3 := bnext hv2 hb; have qv3 := hb; clear hb; have Gv3 : Hid (∀ V, Below v3.heap.size v3 V → GP V ov3 lv3 lv3 10000 (mulP p s)) := (fun V hV => GP.mk' (hpa.later hV) (mulP_lead HF.out.1.1 HF.out.2.1.1) (((mulP_lim HF.out.1.2.1 HF.out.2.1.2.1 HF.out.1.2.2)).mono (by decide)) (Nat.le_trans (mulP_short HF.out.1.2.2 HF.out.2.1.2.2) (by decide)) (by decide)); clear hpa; have Tv3 : Hid True := trivial; clear Tv2)
        | (go_at_call 9; have _t := Tv1; clear _t; refine (mul4_any ao ov1 la ca lv1 lv1 10000 _ _ _ ((HG.out _ hv1).1.mono (by decide) (by decide) : GP _ _ _ _ 10000 _) (Gv1.out _ (Below.refl _ _))).mono ?_; rintro e v2 ⟨ov2, lv2, rfl, hpa, hb⟩; have hv2 : Below Z.heap.size Z v2 := bnext hv1 hb; have qv2 := hb; clear hb; have Gv2 : Hid (∀ V, Below v2.heap.size v2 V → GP V ov2 lv2 lv2 10000 (mulP p (addP s u))) := (fun V hV => GP.mk' (hpa.later hV) (mulP_lead HF.out.1.1 (addP_lead _ _)) (((mulP_lim HF.out.1.2.1 (addP_lim HF.out.2.1.2.1 HF.out.2.2.1.2.1) HF.out.1.2.2)).mono (by decide)) (Nat.le_trans (mulP_short HF.out.1.2.2 (addP_short HF.out.2.1.2.2 HF.out.2.2.1.2.2)) (by decide)) (by decide)); clear hpa; have Tv2 : Hid True := trivial; clear Tv1)
        | (go_at_call 10; have _t := Tv0; clear _t; refine (add4_any bo aox lb cb lax cax 10000 _ _ _ ((HG.out _ (Below.refl _ _)).2.1.mono (by decide) (by decide) : GP _ _ _ _ 10000 _) ((HG.out _ (Below.refl _ _)).2.2.1.mono (by decide) (by decide) : GP _ _ _ _ 10000 _)).mono ?_; rintro e v1 ⟨ov1, lv1, rfl, hpa, hb⟩; have hv1 : Below Z.heap.size Z v1 := bnext (Below.refl _ _) hb; have qv1 := hb; clear hb; have Gv1 : Hid (∀ V, Below v1.heap.size v1 V → GP V ov1 lv1 lv1 10000 (addP s u)) := (fun V hV => GP.mk' (hpa.later hV) (addP_lead _ _) (((addP_lim HF.out.2.1.2.1 HF.out.2.2.1.2.1)).mono (by decide)) (Nat.le_trans (addP_short HF.out.2.1.2.2 HF.out.2.2.1.2.2) (by decide)) (by decide)); clear hpa; have Tv1 : Hid True := trivial; clear Tv0))
       go_meet
       exact ⟨rfl, hv14⟩
      case rest => as_aux_lemma =>
       obtain ⟨rfl, hB1⟩ := hcut
       obtain ⟨Z1, hZ1⟩ : ∃ Z, Z = wc := ⟨_, rfl⟩
       subst hZ1
       have fq4 := (HG.out Z1 hB1).2.2.2.2.2 4 _ rfl; have fq5 := (HG.out Z1 hB1).2.2.2.2.2 5 _ rfl; have fq6 := (HG.out Z1 hB1).2.2.2.2.2 6 _ rfl
       go_upto_region 13 with fail
       go_cut [8, 9] (fun s8 s9 wx => ∃ r8, s8 = .pointer (some ⟨r8, 0, none⟩) ∧ s9 = .int .i64 0 ∧ RV5 wx r8 (evQ p a) ∧ Z.heap.size ≤ r8 ∧ Below Z.heap.size Z wx)
       case first => as_aux_lemma =>
        go_wp2_with (go_at_call 11; refine (geval_any ao la ca 3 p n4 o4 p4 l4 c4 m4 k4 a _ (HG.out _ hB1).1 (by decide) (HG.out _ hB1).2.2.2.1 HF.out.2.2.2.1 (HG.out _ hB1).2.2.2.2.1).mono ?_; rintro e z1 ⟨n9, o9, l9, c9, p9, m9, k9, rfl, hs9, ho9, hd9, hpt9, hb⟩; have HV : Hid (RatAt z1 n9 o9 l9 c9 p9 m9 k9 (evQ p a) ∧ Below Z.heap.size Z z1) := ⟨⟨ho9.int hs9, hd9.row⟩, bnext hB1 hb⟩; clear hs9 ho9 hd9 hpt9 hb)
        go_meet
        have h := rv5_made HV.out.1 HV.out.2
        exact ⟨_, rfl, rfl, h.1, h.2.1, h.2.2⟩
       case rest => as_aux_lemma =>
        obtain ⟨r8, rfl, rfl, hR8, hr8, hB2⟩ := hcut
        obtain ⟨Z2, hZ2⟩ : ∃ Z, Z = wc := ⟨_, rfl⟩
        subst hZ2
        clear fq4 fq5 fq6
        have fq4 := (HG.out Z2 hB2).2.2.2.2.2 4 _ rfl; have fq5 := (HG.out Z2 hB2).2.2.2.2.2 5 _ rfl; have fq6 := (HG.out Z2 hB2).2.2.2.2.2 6 _ rfl
        go_upto_region 14 with fail
        go_cut [10, 11] (fun s8 s9 wx => ∃ r10, s8 = .pointer (some ⟨r10, 0, none⟩) ∧ s9 = .int .i64 0 ∧ RV5 wx r10 (evQ s a) ∧ Z2.heap.size ≤ r10 ∧ Below Z.heap.size Z wx ∧ Below Z2.heap.size Z2 wx)
        case first => as_aux_lemma =>
         clear hR8
         go_wp2_with (go_at_call 11; refine (geval_any bo lb cb 3 s n4 o4 p4 l4 c4 m4 k4 a _ (HG.out _ hB2).2.1 (by decide) (HG.out _ hB2).2.2.2.1 HF.out.2.2.2.1 (HG.out _ hB2).2.2.2.2.1).mono ?_; rintro e z1 ⟨n9, o9, l9, c9, p9, m9, k9, rfl, hs9, ho9, hd9, hpt9, hb⟩; have HV : Hid (RatAt z1 n9 o9 l9 c9 p9 m9 k9 (evQ s a) ∧ Below Z.heap.size Z z1 ∧ Below Z2.heap.size Z2 z1) := ⟨⟨ho9.int hs9, hd9.row⟩, bnext hB2 hb, hb⟩; clear hs9 ho9 hd9 hpt9 hb)
         go_meet
         have h := rv5_made HV.out.1 HV.out.2.2
         exact ⟨_, rfl, rfl, h.1, h.2.1, below_alloc HV.out.2.1 (Nat.le_refl _), h.2.2⟩
        case rest => as_aux_lemma =>
         obtain ⟨r10, rfl, rfl, hR10, hr10, hB3, hB3'⟩ := hcut
         obtain ⟨Z3, hZ3⟩ : ∃ Z, Z = wc := ⟨_, rfl⟩
         subst hZ3
         have HR3 : Hid (RV5 Z3 r8 (evQ p a) ∧ RV5 Z3 r10 (evQ s a)) := ⟨hR8.later hB3', hR10⟩
         clear hR8 hR10 hB3'
         clear fq4 fq5 fq6
         go_upto_region 15 with fail
         have KS : Hid (∀ w', Below Z.heap.size Z w' → w'.cell? ⟨wr.heap.size, 4, none⟩ = some (.bool n4) ∧ w'.cell? ⟨wr.heap.size, 5, none⟩ = some (.slice o4 l4 c4) ∧ w'.cell? ⟨wr.heap.size, 6, none⟩ = some (.slice p4 m4 k4)) := fun w' hb => ⟨(HG.out w' hb).2.2.2.2.2 4 _ rfl, (HG.out w' hb).2.2.2.2.2 5 _ rfl, (HG.out w' hb).2.2.2.2.2 6 _ rfl⟩
         go_cut [12, 13] (fun s8 s9 wx => ∃ rr, s8 = .pointer (some ⟨rr, 0, none⟩) ∧ s9 = .int .i64 0 ∧ RV5 wx rr (evQ (mulP p s) a) ∧ Z3.heap.size ≤ rr ∧ Below Z3.heap.size Z3 wx)
         case first => as_aux_lemma =>
          refine wp_region_noPanic ?_
          have hbV : Below Z3.heap.size Z3 Z3.drew := ((Below.refl _ _)).drew
          refine wp_region_held_drew (S := fun w' => (w'.cell? ⟨wr.heap.size, 4, none⟩ = some (.bool n4) ∧ w'.cell? ⟨wr.heap.size, 5, none⟩ = some (.slice o4 l4 c4) ∧ w'.cell? ⟨wr.heap.size, 6, none⟩ = some (.slice p4 m4 k4))) (by kernel_rfl) (by (try dsimp only); exact KS.out _ (bnext hB3 hbV)) (fun hHeld => ?_)
          clear hHeld
          generalize Z3.drew = V at *
          have hHeld : V.cell? ⟨wr.heap.size, 4, none⟩ = some (.bool n4) ∧ V.cell? ⟨wr.heap.size, 5, none⟩ = some (.slice o4 l4 c4) ∧ V.cell? ⟨wr.heap.size, 6, none⟩ = some (.slice p4 m4 k4) := KS.out _ (bnext hB3 hbV)
          all_goals (
           refine wpAnyH_take (i := 0) (oi := Oper.mk (some 128) _ _ _ _ _) (v := ?_) rfl (by decide +kernel) (by decide +kernel) (by decide +kernel) (fun _ _ _ h => h) (Or.inl ⟨by rfl, ?_⟩) (by assumption) ?_
           rotate_left
           ·
            (intro w hSw; (try dsimp only at hSw); go_simp <;> (try with_reducible rfl))
           (try simp only [Act.put, List.setIfInBounds_toArray, List.set_cons_zero, List.set_cons_succ]))
          all_goals (
           refine wpAnyH_take (i := 1) (oi := Oper.mk (some 129) _ _ _ _ _) (v := ?_) rfl (by decide +kernel) (by decide +kernel) (by decide +kernel) (fun _ _ _ h => h) (Or.inl ⟨by rfl, ?_⟩) (by assumption) ?_
           rotate_left
           ·
            (intro w hSw; (try dsimp only at hSw); go_simp <;> (try with_reducible rfl))
           (try simp only [Act.put, List.setIfInBounds_toArray, List.set_cons_zero, List.set_cons_succ]))
          all_goals (
           refine wpAnyH_take (i := 3) (oi := Oper.mk (some 131) _ _ _ _ _) (v := ?_) rfl (by decide +kernel) (by decide +kernel) (by decide +kernel) (fun _ _ _ h => h) (Or.inl ⟨by rfl, ?_⟩) (by assumption) ?_
           rotate_left
           ·
            (intro w hSw; (try dsimp only at hSw); go_simp <;> (try with_reducible rfl))
           (try simp only [Act.put, List.setIfInBounds_toArray, List.set_cons_zero, List.set_cons_succ]))
          all_goals (
           refine wpAnyH_take (i := 4) (oi := Oper.mk (some 132) _ _ _ _ _) (v := ?_) rfl (by decide +kernel) (by decide +kernel) (by decide +kernel) (fun _ _ _ h => h) (Or.inl ⟨by rfl, ?_⟩) (by assumption) ?_
           rotate_left
           ·
            (intro w hSw; (try dsimp only at hSw); go_simp <;> (try with_reducible rfl))
           (try simp only [Act.put, List.setIfInBounds_toArray, List.set_cons_zero, List.set_cons_succ]))
          all_goals repeat' (first
           | (have _g := FA; clear _g; refine wpAnyH_ready (rs := [2]) (by kernel_rfl) (by simp) ?_; refine (AllReadyH.cons (o := Oper.mk (some 130) _ _ _ _ _) rfl (fun K hK => ?_) AllReadyH.nil))
           | ((fail_if_success (have _g := FA)); refine wpAnyH_ready (rs := [2, 9]) (by kernel_rfl) (by simp) ?_; refine (AllReadyH.cons (o := Oper.mk (some 130) _ _ _ _ _) rfl (fun K hK => ?_) (AllReadyH.cons (o := Oper.mk (some 12) _ _ _ _ _) rfl (fun K hK => ?_) AllReadyH.nil)); rotate_left; (go_simp; clear hHeld; have hst : Below V.heap.size V (V.alloc (.cells #[.bool false, .slice none 0 0, .slice none 0 0] 30)) := (Below.refl _ _).alloc (Nat.le_refl _) _; have FA : Hid (Bx (V.alloc (.cells #[.bool false, .slice none 0 0, .slice none 0 0] 30)) V.heap.size [.bool false, .slice none 0 0, .slice none 0 0]) := Bx.new _ _ _; obtain ⟨rA, hrA⟩ : ∃ r, r = V.heap.size := ⟨_, rfl⟩; have hzA : Z3.heap.size ≤ rA := (by rw [hrA]; exact hbV.size); replace hbV : Below Z3.heap.size Z3 (V.alloc (.cells #[.bool false, .slice none 0 0, .slice none 0 0] 30)) := below_alloc hbV (Nat.le_refl _); clear hst; refine hK.out _ _ (by (try dsimp only); exact KS.out _ (bnext hB3 hbV)) (fun hHeld => ?_); clear hK K hHeld; (try simp only [Act.put, List.setIfInBounds_toArray, List.set_cons_zero, List.set_cons_succ]); rw [← hrA] at FA ⊢; clear hrA; generalize V.alloc (.cells #[.bool false, .slice none 0 0, .slice none 0 0] 30) = V at *; have hHeld : V.cell? ⟨wr.heap.size, 4, none⟩ = some (.bool n4) ∧ V.cell? ⟨wr.heap.size, 5, none⟩ = some (.slice o4 l4 c4) ∧ V.cell? ⟨wr.heap.size, 6, none⟩ = some (.slice p4 m4 k4) := KS.out _ (bnext hB3 hbV)); rotate_left))
          all_goals (go_simp; (go_at_call 9; refine (mul4_any ao bo la ca lb cb 10000 _ _ _ ((HG.out _ (bnext hB3 hbV)).1.mono (by decide) (by decide)) ((HG.out _ (bnext hB3 hbV)).2.1.mono (by decide) (by decide))).mono ?_; rintro e V ⟨oM, lM, rfl, hpa, hb⟩; have HM : Hid (PolyAt V oM lM lM (mulP p s)) := hpa; clear hpa; (try replace FA : Hid (Bx V rA [.bool false, .slice none 0 0, .slice none 0 0]) := FA.out.later hb FA.out.lt); replace hbV : Below Z3.heap.size Z3 V := bnext hbV hb; clear hb); (try go_wp2_with fail); clear hHeld; refine hK.out _ _ (by (try dsimp only); exact KS.out _ (bnext hB3 hbV)) (fun hHeld => ?_); clear hK K; (try simp only [Act.put, List.setIfInBounds_toArray, List.set_cons_zero, List.set_cons_succ]))
          all_goals repeat' (first
           | (have _g := FA; clear _g; refine wpAnyH_ready (rs := [5]) (by kernel_rfl) (by simp) ?_; refine (AllReadyH.cons (o := Oper.mk (some 133) _ _ _ _ _) rfl (fun K hK => ?_) AllReadyH.nil))
           | ((fail_if_success (have _g := FA)); refine wpAnyH_ready (rs := [5, 9]) (by kernel_rfl) (by simp) ?_; refine (AllReadyH.cons (o := Oper.mk (some 133) _ _ _ _ _) rfl (fun K hK => ?_) (AllReadyH.cons (o := Oper.mk (some 12) _ _ _ _ _) rfl (fun K hK => ?_) AllReadyH.nil)); rotate_left; (go_simp; clear hHeld; have hst : Below V.heap.size V (V.alloc (.cells #[.bool false, .slice none 0 0, .slice none 0 0] 30)) := (Below.refl _ _).alloc (Nat.le_refl _) _; have FA : Hid (Bx (V.alloc (.cells #[.bool false, .slice none 0 0, .slice none 0 0] 30)) V.heap.size [.bool false, .slice none 0 0, .slice none 0 0]) := Bx.new _ _ _; obtain ⟨rA, hrA⟩ : ∃ r, r = V.heap.size := ⟨_, rfl⟩; have hzA : Z3.heap.size ≤ rA := (by rw [hrA]; exact hbV.size); replace HM : Hid (PolyAt (V.alloc (.cells #[.bool false, .slice none 0 0, .slice none 0 0] 30)) oM lM lM (mulP p s)) := HM.out.later hst; replace hbV : Below Z3.heap.size Z3 (V.alloc (.cells #[.bool false, .slice none 0 0, .slice none 0 0] 30)) := below_alloc hbV (Nat.le_refl _); clear hst; refine hK.out _ _ (by (try dsimp only); exact KS.out _ (bnext hB3 hbV)) (fun hHeld => ?_); clear hK K hHeld; (try simp only [Act.put, List.setIfInBounds_toArray, List.set_cons_zero, List.set_cons_succ]); rw [← hrA] at FA ⊢; clear hrA; generalize V.alloc (.cells #[.bool false, .slice none 0 0, .slice none 0 0] 30) = V at *; have hHeld : V.cell? ⟨wr.heap.size, 4, none⟩ = some (.bool n4) ∧ V.cell? ⟨wr.heap.size, 5, none⟩ = some (.slice o4 l4 c4) ∧ V.cell? ⟨wr.heap.size, 6, none⟩ = some (.slice p4 m4 k4) := KS.out _ (bnext hB3 hbV)); rotate_left))
          all_goals (go_simp; (go_at_call 11; refine (geval_any oM lM lM 10000 (mulP p s) n4 o4 p4 l4 c4 m4 k4 a _ (GP.mk' HM.out (mulP_lead HF.out.1.1 HF.out.2.1.1) (((mulP_lim HF.out.1.2.1 HF.out.2.1.2.1 HF.out.1.2.2)).mono (by decide)) (Nat.le_trans (mulP_short HF.out.1.2.2 HF.out.2.1.2.2) (by decide)) (by decide)) (by decide) (HG.out _ (bnext hB3 hbV)).2.2.2.1 HF.out.2.2.2.1 (HG.out _ (bnext hB3 hbV)).2.2.2.2.1).mono ?_; rintro e V ⟨n9, o9, l9, c9, p9, m9, k9, rfl, hs9, ho9, hd9, hpt9, hb⟩; have H9 : Hid (RatAt V n9 o9 l9 c9 p9 m9 k9 (evQ (mulP p s) a)) := ⟨ho9.int hs9, hd9.row⟩; clear hs9 ho9 hd9 hpt9; replace HM : Hid (PolyAt V oM lM lM (mulP p s)) := HM.out.later hb; (try replace FA : Hid (Bx V rA [.bool false, .slice none 0 0, .slice none 0 0]) := FA.out.later hb FA.out.lt); replace hbV : Below Z3.heap.size Z3 V := bnext hbV hb; clear hb); (try go_wp2_with fail); clear hHeld; refine hK.out _ _ (by (try dsimp only); exact KS.out _ (bnext hB3 hbV)) (fun hHeld => ?_); clear hK K; (try simp only [Act.put, List.setIfInBounds_toArray, List.set_cons_zero, List.set_cons_succ]))
          all_goals clear HM
          all_goals (
           refine wpAnyH_take (i := 6) (oi := Oper.mk (some 127) _ _ _ _ _) (v := ?_) rfl (by decide +kernel) (by decide +kernel) (by decide +kernel) (fun _ _ _ h => h) (Or.inl ⟨by rfl, ?_⟩) (by assumption) ?_
           rotate_left
           ·
            (intro w hSw; (try dsimp only at hSw); go_simp <;> (try with_reducible rfl))
           (try simp only [Act.put, List.setIfInBounds_toArray, List.set_cons_zero, List.set_cons_succ]))
          all_goals (
           refine wpAnyH_take (i := 7) (oi := Oper.mk (some 134) _ _ _ _ _) (v := ?_) rfl (by decide +kernel) (by decide +kernel) (by decide +kernel) (fun _ _ _ h => h) (Or.inl ⟨by rfl, ?_⟩) (by assumption) ?_
           rotate_left
           ·
            (intro w hSw; (try dsimp only at hSw); go_simp <;> (try with_reducible rfl))
           (try simp only [Act.put, List.setIfInBounds_toArray, List.set_cons_zero, List.set_cons_succ]))
          all_goals (
           refine wpAnyH_take (i := 8) (oi := Oper.mk (some 135) _ _ _ _ _) (v := ?_) rfl (by decide +kernel) (by decide +kernel) (by decide +kernel) (fun _ _ _ h => h) (Or.inl ⟨by rfl, ?_⟩) (by assumption) ?_
           rotate_left
           ·
            (intro w hSw; (try dsimp only at hSw); go_simp <;> (try with_reducible rfl))
           (try simp only [Act.put, List.setIfInBounds_toArray, List.set_cons_zero, List.set_cons_succ]))
          all_goals repeat' (first
           | (have _g := FA; clear _g; refine wpAnyH_ready (rs := [10]) (by kernel_rfl) (by simp) ?_; refine (AllReadyH.cons (o := Oper.mk none _ _ _ _ _) rfl (fun K hK => ?_) AllReadyH.nil))
           | ((fail_if_success (have _g := FA)); refine wpAnyH_ready (rs := [9]) (by kernel_rfl) (by simp) ?_; refine (AllReadyH.cons (o := Oper.mk (some 12) _ _ _ _ _) rfl (fun K hK => ?_) AllReadyH.nil); (go_simp; clear hHeld; have hst : Below V.heap.size V (V.alloc (.cells #[.bool false, .slice none 0 0, .slice none 0 0] 30)) := (Below.refl _ _).alloc (Nat.le_refl _) _; have FA : Hid (Bx (V.alloc (.cells #[.bool false, .slice none 0 0, .slice none 0 0] 30)) V.heap.size [.bool false, .slice none 0 0, .slice none 0 0]) := Bx.new _ _ _; obtain ⟨rA, hrA⟩ : ∃ r, r = V.heap.size := ⟨_, rfl⟩; have hzA : Z3.heap.size ≤ rA := (by rw [hrA]; exact hbV.size); replace H9 : Hid (RatAt (V.alloc (.cells #[.bool false, .slice none 0 0, .slice none 0 0] 30)) n9 o9 l9 c9 p9 m9 k9 (evQ (mulP p s) a)) := H9.out.later hst; replace hbV : Below Z3.heap.size Z3 (V.alloc (.cells #[.bool false, .slice none 0 0, .slice none 0 0] 30)) := below_alloc hbV (Nat.le_refl _); clear hst; refine hK.out _ _ (by (try dsimp only); exact KS.out _ (bnext hB3 hbV)) (fun hHeld => ?_); clear hK K hHeld; (try simp only [Act.put, List.setIfInBounds_toArray, List.set_cons_zero, List.set_cons_succ]); rw [← hrA] at FA ⊢; clear hrA; generalize V.alloc (.cells #[.bool false, .slice none 0 0, .slice none 0 0] 30) = V at *; have hHeld : V.cell? ⟨wr.heap.size, 4, none⟩ = some (.bool n4) ∧ V.cell? ⟨wr.heap.size, 5, none⟩ = some (.slice o4 l4 c4) ∧ V.cell? ⟨wr.heap.size, 6, none⟩ = some (.slice p4 m4 k4) := KS.out _ (bnext hB3 hbV))))
          all_goals (have bf := FA.out.2; have b0 := FA.out.1 0 _ rfl; have b1 := FA.out.1 1 _ rfl; have b2 := FA.out.1 2 _ rfl; go_simp; clear hHeld bf b0 b1 b2; replace H9 : Hid (RatAt (((V.setCell ⟨rA, 0, none⟩ (.bool n9)).setCell ⟨rA, 1, none⟩ (.slice o9 l9 c9)).setCell ⟨rA, 2, none⟩ (.slice p9 m9 k9)) n9 o9 l9 c9 p9 m9 k9 (evQ (mulP p s) a)) := FA.out.rat (by simp [NoWord]) (ws := [.bool n9, .slice o9 l9 c9, .slice p9 m9 k9]) rfl H9.out; have BA : Hid (Bx (((V.setCell ⟨rA, 0, none⟩ (.bool n9)).setCell ⟨rA, 1, none⟩ (.slice o9 l9 c9)).setCell ⟨rA, 2, none⟩ (.slice p9 m9 k9)) rA [.bool n9, .slice o9 l9 c9, .slice p9 m9 k9]) := FA.out.put (ws := [.bool n9, .slice o9 l9 c9, .slice p9 m9 k9]) rfl; clear FA; replace hbV : Below Z3.heap.size Z3 (((V.setCell ⟨rA, 0, none⟩ (.bool n9)).setCell ⟨rA, 1, none⟩ (.slice o9 l9 c9)).setCell ⟨rA, 2, none⟩ (.slice p9 m9 k9)) := putl_below hzA [.bool n9, .slice o9 l9 c9, .slice p9 m9 k9] 0 _ hbV; refine hK.out _ _ (by (try dsimp only); exact KS.out _ (bnext hB3 hbV)) (fun hHeld => ?_); clear hK K hHeld; (try simp only [Act.put, List.setIfInBounds_toArray, List.set_cons_zero, List.set_cons_succ]); generalize (((V.setCell ⟨rA, 0, none⟩ (.bool n9)).setCell ⟨rA, 1, none⟩ (.slice o9 l9 c9)).setCell ⟨rA, 2, none⟩ (.slice p9 m9 k9)) = V at *; have hHeld : V.cell? ⟨wr.heap.size, 4, none⟩ = some (.bool n4) ∧ V.cell? ⟨wr.heap.size, 5, none⟩ = some (.slice o4 l4 c4) ∧ V.cell? ⟨wr.heap.size, 6, none⟩ = some (.slice p4 m4 k4) := KS.out _ (bnext hB3 hbV))
          all_goals (
           refine wpAnyH_take (i := 11) (oi := Oper.mk (some 13) _ _ _ _ _) (v := ?_) rfl (by decide +kernel) (by decide +kernel) (by decide +kernel) (fun _ _ _ h => h) (Or.inl ⟨by rfl, ?_⟩) (by assumption) ?_
           rotate_left
           ·
            (intro w hSw; (try dsimp only at hSw); go_simp <;> (try with_reducible rfl))
           (try simp only [Act.put, List.setIfInBounds_toArray, List.set_cons_zero, List.set_cons_succ]))
          all_goals (refine wpAnyH_done (by decide +kernel) ?_ _; refine NoPanic.normal ?_)
          all_goals (go_wp2; go_meet; exact ⟨_, rfl, rfl, ⟨_, _, _, _, _, _, _, BA.out, H9.out⟩, hzA, hbV⟩)
         case rest => as_aux_lemma =>
          obtain ⟨r12, rfl, rfl, hR12, hr12, hB4'⟩ := hcut
          obtain ⟨Z4, hZ4⟩ : ∃ Z, Z = wc := ⟨_, rfl⟩
          subst hZ4
          have HR4 : Hid (RV5 Z4 r8 (evQ p a) ∧ RV5 Z4 r10 (evQ s a) ∧ RV5 Z4 r12 (evQ (mulP p s) a)) := ⟨HR3.out.1.later hB4', HR3.out.2.later hB4', hR12⟩
          have hB4 := bnext hB3 hB4'
          clear hR12 hB4' HR3 KS
          go_upto_region 16 with fail
          have KS : Hid (∀ w', Below Z.heap.size Z w' → w'.cell? ⟨wr.heap.size, 4, none⟩ = some (.bool n4) ∧ w'.cell? ⟨wr.heap.size, 5, none⟩ = some (.slice o4 l4 c4) ∧ w'.cell? ⟨wr.heap.size, 6, none⟩ = some (.slice p4 m4 k4)) := fun w' hb => ⟨(HG.out w' hb).2.2.2.2.2 4 _ rfl, (HG.out w' hb).2.2.2.2.2 5 _ rfl, (HG.out w' hb).2.2.2.2.2 6 _ rfl⟩
          go_cut [14, 15] (fun s8 s9 wx => ∃ rr, s8 = .pointer (some ⟨rr, 0, none⟩) ∧ s9 = .int .i64 0 ∧ RV5 wx rr (evQ (addP p s) a) ∧ Z4.heap.size ≤ rr ∧ Below Z4.heap.size Z4 wx)
          case first => as_aux_lemma =>
           refine wp_region_noPanic ?_
           have hbV : Below Z4.heap.size Z4 Z4.drew := ((Below.refl _ _)).drew
           refine wp_region_held_drew (S := fun w' => (w'.cell? ⟨wr.heap.size, 4, none⟩ = some (.bool n4) ∧ w'.cell? ⟨wr.heap.size, 5, none⟩ = some (.slice o4 l4 c4) ∧ w'.cell? ⟨wr.heap.size, 6, none⟩ = some (.slice p4 m4 k4))) (by kernel_rfl) (by (try dsimp only); exact KS.out _ (bnext hB4 hbV)) (fun hHeld => ?_)
           clear hHeld
           generalize Z4.drew = V at *
           have hHeld : V.cell? ⟨wr.heap.size, 4, none⟩ = some (.bool n4) ∧ V.cell? ⟨wr.heap.size, 5, none⟩ = some (.slice o4 l4 c4) ∧ V.cell? ⟨wr.heap.size, 6, none⟩ = some (.slice p4 m4 k4) := KS.out _ (bnext hB4 hbV)
           all_goals (
            refine wpAnyH_take (i := 0) (oi := Oper.mk (some 137) _ _ _ _ _) (v := ?_) rfl (by decide +kernel) (by decide +kernel) (by decide +kernel) (fun _ _ _ h => h) (Or.inl ⟨by rfl, ?_⟩) (by assumption) ?_
            rotate_left
            ·
             (intro w hSw; (try dsimp only at hSw); go_simp <;> (try with_reducible rfl))
            (try simp only [Act.put, List.setIfInBounds_toArray, List.set_cons_zero, List.set_cons_succ]))
           all_goals (
            refine wpAnyH_take (i := 1) (oi := Oper.mk (some 138) _ _ _ _ _) (v := ?_) rfl (by decide +kernel) (by decide +kernel) (by decide +kernel) (fun _ _ _ h => h) (Or.inl ⟨by rfl, ?_⟩) (by assumption) ?_
            rotate_left
            ·
             (intro w hSw; (try dsimp only at hSw); go_simp <;> (try with_reducible rfl))
            (try simp only [Act.put, List.setIfInBounds_toArray, List.set_cons_zero, List.set_cons_succ]))
           all_goals (
            refine wpAnyH_take (i := 3) (oi := Oper.mk (some 140) _ _ _ _ _) (v := ?_) rfl (by decide +kernel) (by decide +kernel) (by decide +kernel) (fun _ _ _ h => h) (Or.inl ⟨by rfl, ?_⟩) (by assumption) ?_
            rotate_left
            ·
             (intro w hSw; (try dsimp only at hSw); go_simp <;> (try with_reducible rfl))
            (try simp only [Act.put, List.setIfInBounds_toArray, List.set_cons_zero, List.set_cons_succ]))
           all_goals (
            refine wpAnyH_take (i := 4) (oi := Oper.mk (some 141) _ _ _ _ _) (v := ?_) rfl (by decide +kernel) (by decide +kernel) (by decide +kernel) (fun _ _ _ h => h) (Or.inl ⟨by rfl, ?_⟩) (by assumption) ?_
            rotate_left
            ·
             (intro w hSw; (try dsimp only at hSw); go_simp <;> (try with_reducible rfl))
            (try simp only [Act.put, List.setIfInBounds_toArray, List.set_cons_zero, List.set_cons_succ]))
           all_goals repeat' (first
            | (have _g := FA; clear _g; refine wpAnyH_ready (rs := [2]) (by kernel_rfl) (by simp) ?_; refine (AllReadyH.cons (o := Oper.mk (some 139) _ _ _ _ _) rfl (fun K hK => ?_) AllReadyH.nil))
            | ((fail_if_success (have _g := FA)); refine wpAnyH_ready (rs := [2, 9]) (by kernel_rfl) (by simp) ?_; refine (AllReadyH.cons (o := Oper.mk (some 139) _ _ _ _ _) rfl (fun K hK => ?_) (AllReadyH.cons (o := Oper.mk (some 14) _ _ _ _ _) rfl (fun K hK => ?_) AllReadyH.nil)); rotate_left; (go_simp; clear hHeld; have hst : Below V.heap.size V (V.alloc (.cells #[.bool false, .slice none 0 0, .slice none 0 0] 30)) := (Below.refl _ _).alloc (Nat.le_refl _) _; have FA : Hid (Bx (V.alloc (.cells #[.bool false, .slice none 0 0, .slice none 0 0] 30)) V.heap.size [.bool false, .slice none 0 0, .slice none 0 0]) := Bx.new _ _ _; obtain ⟨rA, hrA⟩ : ∃ r, r = V.heap.size := ⟨_, rfl⟩; have hzA : Z4.heap.size ≤ rA := (by rw [hrA]; exact hbV.size); replace hbV : Below Z4.heap.size Z4 (V.alloc (.cells #[.bool false, .slice none 0 0, .slice none 0 0] 30)) := below_alloc hbV (Nat.le_refl _); clear hst; refine hK.out _ _ (by (try dsimp only); exact KS.out _ (bnext hB4 hbV)) (fun hHeld => ?_); clear hK K hHeld; (try simp only [Act.put, List.setIfInBounds_toArray, List.set_cons_zero, List.set_cons_succ]); rw [← hrA] at FA ⊢; clear hrA; generalize V.alloc (.cells #[.bool false, .slice none 0 0, .slice none 0 0] 30) = V at *; have hHeld : V.cell? ⟨wr.heap.size, 4, none⟩ = some (.bool n4) ∧ V.cell? ⟨wr.heap.size, 5, none⟩ = some (.slice o4 l4 c4) ∧ V.cell? ⟨wr.heap.size, 6, none⟩ = some (.slice p4 m4 k4) := KS.out _ (bnext hB4 hbV)); rotate_left))
           all_goals (go_simp; (go_at_call 10; refine (add4_any ao bo la ca lb cb 10000 _ _ _ ((HG.out _ (bnext hB4 hbV)).1.mono (by decide) (by decide)) ((HG.out _ (bnext hB4 hbV)).2.1.mono (by decide) (by decide))).mono ?_; rintro e V ⟨oM, lM, rfl, hpa, hb⟩; have HM : Hid (PolyAt V oM lM lM (addP p s)) := hpa; clear hpa; (try replace FA : Hid (Bx V rA [.bool false, .slice none 0 0, .slice none 0 0]) := FA.out.later hb FA.out.lt); replace hbV : Below Z4.heap.size Z4 V := bnext hbV hb; clear hb); (try go_wp2_with fail); clear hHeld; refine hK.out _ _ (by (try dsimp only); exact KS.out _ (bnext hB4 hbV)) (fun hHeld => ?_); clear hK K; (try simp only [Act.put, List.setIfInBounds_toArray, List.set_cons_zero, List.set_cons_succ]))
           all_goals repeat' (first
            | (have _g := FA; clear _g; refine wpAnyH_ready (rs := [5]) (by kernel_rfl) (by simp) ?_; refine (AllReadyH.cons (o := Oper.mk (some 142) _ _ _ _ _) rfl (fun K hK => ?_) AllReadyH.nil))
            | ((fail_if_success (have _g := FA)); refine wpAnyH_ready (rs := [5, 9]) (by kernel_rfl) (by simp) ?_; refine (AllReadyH.cons (o := Oper.mk (some 142) _ _ _ _ _) rfl (fun K hK => ?_) (AllReadyH.cons (o := Oper.mk (some 14) _ _ _ _ _) rfl (fun K hK => ?_) AllReadyH.nil)); rotate_left; (go_simp; clear hHeld; have hst : Below V.heap.size V (V.alloc (.cells #[.bool false, .slice none 0 0, .slice none 0 0] 30)) := (Below.refl _ _).alloc (Nat.le_refl _) _; have FA : Hid (Bx (V.alloc (.cells #[.bool false, .slice none 0 0, .slice none 0 0] 30)) V.heap.size [.bool false, .slice none 0 0, .slice none 0 0]) := Bx.new _ _ _; obtain ⟨rA, hrA⟩ : ∃ r, r = V.heap.size := ⟨_, rfl⟩; have hzA : Z4.heap.size ≤ rA := (by rw [hrA]; exact hbV.size); replace HM : Hid (PolyAt (V.alloc (.cells #[.bool false, .slice none 0 0, .slice none 0 0] 30)) oM lM lM (addP p s)) := HM.out.later hst; replace hbV : Below Z4.heap.size Z4 (V.alloc (.cells #[.bool false, .slice none 0 0, .slice none 0 0] 30)) := below_alloc hbV (Nat.le_refl _); clear hst; refine hK.out _ _ (by (try dsimp only); exact KS.out _ (bnext hB4 hbV)) (fun hHeld => ?_); clear hK K hHeld; (try simp only [Act.put, List.setIfInBounds_toArray, List.set_cons_zero, List.set_cons_succ]); rw [← hrA] at FA ⊢; clear hrA; generalize V.alloc (.cells #[.bool false, .slice none 0 0, .slice none 0 0] 30) = V at *; have hHeld : V.cell? ⟨wr.heap.size, 4, none⟩ = some (.bool n4) ∧ V.cell? ⟨wr.heap.size, 5, none⟩ = some (.slice o4 l4 c4) ∧ V.cell? ⟨wr.heap.size, 6, none⟩ = some (.slice p4 m4 k4) := KS.out _ (bnext hB4 hbV)); rotate_left))
           all_goals (go_simp; (go_at_call 11; refine (geval_any oM lM lM 10000 (addP p s) n4 o4 p4 l4 c4 m4 k4 a _ (GP.mk' HM.out (addP_lead _ _) (((addP_lim HF.out.1.2.1 HF.out.2.1.2.1)).mono (by decide)) (Nat.le_trans (addP_short HF.out.1.2.2 HF.out.2.1.2.2) (by decide)) (by decide)) (by decide) (HG.out _ (bnext hB4 hbV)).2.2.2.1 HF.out.2.2.2.1 (HG.out _ (bnext hB4 hbV)).2.2.2.2.1).mono ?_; rintro e V ⟨n9, o9, l9, c9, p9, m9, k9, rfl, hs9, ho9, hd9, hpt9, hb⟩; have H9 : Hid (RatAt V n9 o9 l9 c9 p9 m9 k9 (evQ (addP p s) a)) := ⟨ho9.int hs9, hd9.row⟩; clear hs9 ho9 hd9 hpt9; replace HM : Hid (PolyAt V oM lM lM (addP p s)) := HM.out.later hb; (try replace FA : Hid (Bx V rA [.bool false, .slice none 0 0, .slice none 0 0]) := FA.out.later hb FA.out.lt); replace hbV : Below Z4.heap.size Z4 V := bnext hbV hb; clear hb); (try go_wp2_with fail); clear hHeld; refine hK.out _ _ (by (try dsimp only); exact KS.out _ (bnext hB4 hbV)) (fun hHeld => ?_); clear hK K; (try simp only [Act.put, List.setIfInBounds_toArray, List.set_cons_zero, List.set_cons_succ]))
           all_goals clear HM
           all_goals (
            refine wpAnyH_take (i := 6) (oi := Oper.mk (some 136) _ _ _ _ _) (v := ?_) rfl (by decide +kernel) (by decide +kernel) (by decide +kernel) (fun _ _ _ h => h) (Or.inl ⟨by rfl, ?_⟩) (by assumption) ?_
            rotate_left
            ·
             (intro w hSw; (try dsimp only at hSw); go_simp <;> (try with_reducible rfl))
            (try simp only [Act.put, List.setIfInBounds_toArray, List.set_cons_zero, List.set_cons_succ]))
           all_goals (
            refine wpAnyH_take (i := 7) (oi := Oper.mk (some 143) _ _ _ _ _) (v := ?_) rfl (by decide +kernel) (by decide +kernel) (by decide +kernel) (fun _ _ _ h => h) (Or.inl ⟨by rfl, ?_⟩) (by assumption) ?_
            rotate_left
            ·
             (intro w hSw; (try dsimp only at hSw); go_simp <;> (try with_reducible rfl))
            (try simp only [Act.put, List.setIfInBounds_toArray, List.set_cons_zero, List.set_cons_succ]))
           all_goals (
            refine wpAnyH_take (i := 8) (oi := Oper.mk (some 144) _ _ _ _ _) (v := ?_) rfl (by decide +kernel) (by decide +kernel) (by decide +kernel) (fun _ _ _ h => h) (Or.inl ⟨by rfl, ?_⟩) (by assumption) ?_
            rotate_left
            ·
             (intro w hSw; (try dsimp only at hSw); go_simp <;> (try with_reducible rfl))
            (try simp only [Act.put, List.setIfInBounds_toArray, List.set_cons_zero, List.set_cons_succ]))
           all_goals repeat' (first
            | (have _g := FA; clear _g; refine wpAnyH_ready (rs := [10]) (by kernel_rfl) (by simp) ?_; refine (AllReadyH.cons (o := Oper.mk none _ _ _ _ _) rfl (fun K hK => ?_) AllReadyH.nil))
            | ((fail_if_success (have _g := FA)); refine wpAnyH_ready (rs := [9]) (by kernel_rfl) (by simp) ?_; refine (AllReadyH.cons (o := Oper.mk (some 14) _ _ _ _ _) rfl (fun K hK => ?_) AllReadyH.nil); (go_simp; clear hHeld; have hst : Below V.heap.size V (V.alloc (.cells #[.bool false, .slice none 0 0, .slice none 0 0] 30)) := (Below.refl _ _).alloc (Nat.le_refl _) _; have FA : Hid (Bx (V.alloc (.cells #[.bool false, .slice none 0 0, .slice none 0 0] 30)) V.heap.size [.bool false, .slice none 0 0, .slice none 0 0]) := Bx.new _ _ _; obtain ⟨rA, hrA⟩ : ∃ r, r = V.heap.size := ⟨_, rfl⟩; have hzA : Z4.heap.size ≤ rA := (by rw [hrA]; exact hbV.size); replace H9 : Hid (RatAt (V.alloc (.cells #[.bool false, .slice none 0 0, .slice none 0 0] 30)) n9 o9 l9 c9 p9 m9 k9 (evQ (addP p s) a)) := H9.out.later hst; replace hbV : Below Z4.heap.size Z4 (V.alloc (.cells #[.bool false, .slice none 0 0, .slice none 0 0] 30)) := below_alloc hbV (Nat.le_refl _); clear hst; refine hK.out _ _ (by (try dsimp only); exact KS.out _ (bnext hB4 hbV)) (fun hHeld => ?_); clear hK K hHeld; (try simp only [Act.put, List.setIfInBounds_toArray, List.set_cons_zero, List.set_cons_succ]); rw [← hrA] at FA ⊢; clear hrA; generalize V.alloc (.cells #[.bool false, .slice none 0 0, .slice none 0 0] 30) = V at *; have hHeld : V.cell? ⟨wr.heap.size, 4, none⟩ = some (.bool n4) ∧ V.cell? ⟨wr.heap.size, 5, none⟩ = some (.slice o4 l4 c4) ∧ V.cell? ⟨wr.heap.size, 6, none⟩ = some (.slice p4 m4 k4) := KS.out _ (bnext hB4 hbV))))
           all_goals (have bf := FA.out.2; have b0 := FA.out.1 0 _ rfl; have b1 := FA.out.1 1 _ rfl; have b2 := FA.out.1 2 _ rfl; go_simp; clear hHeld bf b0 b1 b2; replace H9 : Hid (RatAt (((V.setCell ⟨rA, 0, none⟩ (.bool n9)).setCell ⟨rA, 1, none⟩ (.slice o9 l9 c9)).setCell ⟨rA, 2, none⟩ (.slice p9 m9 k9)) n9 o9 l9 c9 p9 m9 k9 (evQ (addP p s) a)) := FA.out.rat (by simp [NoWord]) (ws := [.bool n9, .slice o9 l9 c9, .slice p9 m9 k9]) rfl H9.out; have BA : Hid (Bx (((V.setCell ⟨rA, 0, none⟩ (.bool n9)).setCell ⟨rA, 1, none⟩ (.slice o9 l9 c9)).setCell ⟨rA, 2, none⟩ (.slice p9 m9 k9)) rA [.bool n9, .slice o9 l9 c9, .slice p9 m9 k9]) := FA.out.put (ws := [.bool n9, .slice o9 l9 c9, .slice p9 m9 k9]) rfl; clear FA; replace hbV : Below Z4.heap.size Z4 (((V.setCell ⟨rA, 0, none⟩ (.bool n9)).setCell ⟨rA, 1, none⟩ (.slice o9 l9 c9)).setCell ⟨rA, 2, none⟩ (.slice p9 m9 k9)) := putl_below hzA [.bool n9, .slice o9 l9 c9, .slice p9 m9 k9] 0 _ hbV; refine hK.out _ _ (by (try dsimp only); exact KS.out _ (bnext hB4 hbV)) (fun hHeld => ?_); clear hK K hHeld; (try simp only [Act.put, List.setIfInBounds_toArray, List.set_cons_zero, List.set_cons_succ]); generalize (((V.setCell ⟨rA, 0, none⟩ (.bool n9)).setCell ⟨rA, 1, none⟩ (.slice o9 l9 c9)).setCell ⟨rA, 2, none⟩ (.slice p9 m9 k9)) = V at *; have hHeld : V.cell? ⟨wr.heap.size, 4, none⟩ = some (.bool n4) ∧ V.cell? ⟨wr.heap.size, 5, none⟩ = some (.slice o4 l4 c4) ∧ V.cell? ⟨wr.heap.size, 6, none⟩ = some (.slice p4 m4 k4) := KS.out _ (bnext hB4 hbV))
           all_goals (
            refine wpAnyH_take (i := 11) (oi := Oper.mk (some 15) _ _ _ _ _) (v := ?_) rfl (by decide +kernel) (by decide +kernel) (by decide +kernel) (fun _ _ _ h => h) (Or.inl ⟨by rfl, ?_⟩) (by assumption) ?_
            rotate_left
            ·
             (intro w hSw; (try dsimp only at hSw); go_simp <;> (try with_reducible rfl))
            (try simp only [Act.put, List.setIfInBounds_toArray, List.set_cons_zero, List.set_cons_succ]))
           all_goals (refine wpAnyH_done (by decide +kernel) ?_ _; refine NoPanic.normal ?_)
           all_goals (go_wp2; go_meet; exact ⟨_, rfl, rfl, ⟨_, _, _, _, _, _, _, BA.out, H9.out⟩, hzA, hbV⟩)
          case rest => as_aux_lemma =>
           obtain ⟨r14, rfl, rfl, hR14, hr14, hB5'⟩ := hcut
           obtain ⟨Z5, hZ5⟩ : ∃ Z, Z = wc := ⟨_, rfl⟩
           subst hZ5
           obtain ⟨nx, ox, lx, cx, px, mx, kx, hbx, hrx⟩ := HR4.out.1.later hB5'
           obtain ⟨ny, oy, ly, cy, py, my, ky, hby, hry⟩ := HR4.out.2.1.later hB5'
           obtain ⟨ns, os, ls, cs, ps, ms, ks, hbs, hrs⟩ := HR4.out.2.2.later hB5'
           obtain ⟨nt, ot, lt, ct, pt, mt, kt, hbt, hrt⟩ := hR14
           have HX : Hid (∀ V, Below Z5.heap.size Z5 V → (Bx V r8 [.bool nx, .slice ox lx cx, .slice px mx kx] ∧ Bx V r10 [.bool ny, .slice oy ly cy, .slice py my ky] ∧ Bx V r12 [.bool ns, .slice os ls cs, .slice ps ms ks] ∧ Bx V r14 [.bool nt, .slice ot lt ct, .slice pt mt kt]) ∧ RatAt V nx ox lx cx px mx kx (evQ p a) ∧ RatAt V ny oy ly cy py my ky (evQ s a) ∧ RatAt V ns os ls cs ps ms ks (evQ p a * evQ s a) ∧ RatAt V nt ot lt ct pt mt kt (evQ p a + evQ s a)) := fun V hV => ⟨⟨hbx.later hV hbx.lt, hby.later hV hby.lt, hbs.later hV hbs.lt, hbt.later hV hbt.lt⟩, hrx.later hV, hry.later hV, by rw [← evQ_mulP]; exact hrs.later hV, by rw [← evQ_addP]; exact hrt.later hV⟩
           have HSZ : Hid (Sz (evQ p a) 1000 ∧ Sz (evQ s a) 1000) := ⟨(evQ_sz HF.out.1.2.1 HF.out.1.2.2 HF.out.2.2.2.1).mono (by decide), (evQ_sz HF.out.2.1.2.1 HF.out.2.1.2.2 HF.out.2.2.2.1).mono (by decide)⟩
           have hB5 := bnext hB4 hB5'
           clear hbx hrx hby hry hbs hrs hbt hrt hB5' HR4 KS
           go_upto_region 17 with fail
           have KS : Hid (∀ w', Below Z5.heap.size Z5 w' → w'.cell? ⟨r8, 0, none⟩ = some (.bool nx) ∧ w'.cell? ⟨r8, 1, none⟩ = some (.slice ox lx cx) ∧ w'.cell? ⟨r8, 2, none⟩ = some (.slice px mx kx) ∧ w'.cell? ⟨r10, 0, none⟩ = some (.bool ny) ∧ w'.cell? ⟨r10, 1, none⟩ = some (.slice oy ly cy) ∧ w'.cell? ⟨r10, 2, none⟩ = some (.slice py my ky) ∧ w'.cell? ⟨r12, 0, none⟩ = some (.bool ns) ∧ w'.cell? ⟨r12, 1, none⟩ = some (.slice os ls cs) ∧ w'.cell? ⟨r12, 2, none⟩ = some (.slice ps ms ks) ∧ w'.cell? ⟨r14, 0, none⟩ = some (.bool nt) ∧ w'.cell? ⟨r14, 1, none⟩ = some (.slice ot lt ct) ∧ w'.cell? ⟨r14, 2, none⟩ = some (.slice pt mt kt)) := fun w' hb => ⟨(HX.out w' hb).1.1.1 0 _ rfl, (HX.out w' hb).1.1.1 1 _ rfl, (HX.out w' hb).1.1.1 2 _ rfl, (HX.out w' hb).1.2.1.1 0 _ rfl, (HX.out w' hb).1.2.1.1 1 _ rfl, (HX.out w' hb).1.2.1.1 2 _ rfl, (HX.out w' hb).1.2.2.1.1 0 _ rfl, (HX.out w' hb).1.2.2.1.1 1 _ rfl, (HX.out w' hb).1.2.2.1.1 2 _ rfl, (HX.out w' hb).1.2.2.2.1 0 _ rfl, (HX.out w' hb).1.2.2.2.1 1 _ rfl, (HX.out w' hb).1.2.2.2.1 2 _ rfl⟩
           go_cut [178] (fun s178 wx => s178 = .bool false ∧ Below Z5.heap.size Z5 wx)
           case first => as_aux_lemma =>
            refine wp_region_noPanic ?_
            refine wp_region_held_drew (S := fun w' => (w'.cell? ⟨r8, 0, none⟩ = some (.bool nx) ∧ w'.cell? ⟨r8, 1, none⟩ = some (.slice ox lx cx) ∧ w'.cell? ⟨r8, 2, none⟩ = some (.slice px mx kx) ∧ w'.cell? ⟨r10, 0, none⟩ = some (.bool ny) ∧ w'.cell? ⟨r10, 1, none⟩ = some (.slice oy ly cy) ∧ w'.cell? ⟨r10, 2, none⟩ = some (.slice py my ky) ∧ w'.cell? ⟨r12, 0, none⟩ = some (.bool ns) ∧ w'.cell? ⟨r12, 1, none⟩ = some (.slice os ls cs) ∧ w'.cell? ⟨r12, 2, none⟩ = some (.slice ps ms ks) ∧ w'.cell? ⟨r14, 0, none⟩ = some (.bool nt) ∧ w'.cell? ⟨r14, 1, none⟩ = some (.slice ot lt ct) ∧ w'.cell? ⟨r14, 2, none⟩ = some (.slice pt mt kt))) (by kernel_rfl) (by (try dsimp only); exact KS.out _ (Below.refl _ _).drew) (fun hHeld => ?_)
            refine wpAnyH_take (i := 0) (oi := Oper.mk (some 145) _ _ _ _ _) (v := ?_) rfl (by decide +kernel) (by decide +kernel) (by decide +kernel) (fun _ _ _ h => h) (Or.inl ⟨by rfl, ?_⟩) (by assumption) ?_
            rotate_left
            ·
             (intro w hSw; (try dsimp only at hSw); go_simp <;> (try with_reducible rfl))
            (try simp only [Act.put, List.setIfInBounds_toArray, List.set_cons_zero, List.set_cons_succ])
            refine wpAnyH_ready (rs := [1]) (by decide +kernel) (by simp) ?_
            refine AllReadyH.cons (o := Oper.mk (some 146) _ _ _ _ _) rfl (fun K hK => ?_) AllReadyH.nil
            go_simp
            (go_at_call 12; refine (num4_any _ _).mono ?_; rintro e n1w ⟨rfl, hb⟩; have hn1 : Below Z5.heap.size Z5 n1w := bnext (Below.refl _ _).drew hb; clear hb)
            (try go_wp2_with fail)
            clear hHeld
            refine hK.out _ _ (by (try dsimp only); exact KS.out _ hn1) (fun hHeld => ?_)
            clear hK K
            (try simp only [Act.put, List.setIfInBounds_toArray, List.set_cons_zero, List.set_cons_succ])
            refine wpAnyH_take (i := 2) (oi := Oper.mk (some 147) _ _ _ _ _) (v := ?_) rfl (by decide +kernel) (by decide +kernel) (by decide +kernel) (fun _ _ _ h => h) (Or.inl ⟨by rfl, ?_⟩) (by assumption) ?_
            rotate_left
            ·
             (intro w hSw; (try dsimp only at hSw); go_simp <;> (try with_reducible rfl))
            (try simp only [Act.put, List.setIfInBounds_toArray, List.set_cons_zero, List.set_cons_succ])
            refine wpAnyH_take (i := 3) (oi := Oper.mk (some 148) _ _ _ _ _) (v := ?_) rfl (by decide +kernel) (by decide +kernel) (by decide +kernel) (fun _ _ _ h => h) (Or.inl ⟨by rfl, ?_⟩) (by assumption) ?_
            rotate_left
            ·
             (intro w hSw; (try dsimp only at hSw); go_simp <;> (try with_reducible rfl))
            (try simp only [Act.put, List.setIfInBounds_toArray, List.set_cons_zero, List.set_cons_succ])
            refine wpAnyH_take (i := 4) (oi := Oper.mk (some 149) _ _ _ _ _) (v := ?_) rfl (by decide +kernel) (by decide +kernel) (by decide +kernel) (fun _ _ _ h => h) (Or.inl ⟨by rfl, ?_⟩) (by assumption) ?_
            rotate_left
            ·
             (intro w hSw; (try dsimp only at hSw); go_simp <;> (try with_reducible rfl))
            (try simp only [Act.put, List.setIfInBounds_toArray, List.set_cons_zero, List.set_cons_succ])
            refine wpAnyH_ready (rs := [5]) (by decide +kernel) (by simp) ?_
            refine AllReadyH.cons (o := Oper.mk (some 150) _ _ _ _ _) rfl (fun K hK => ?_) AllReadyH.nil
            go_simp
            (go_at_call 12; refine (num4_any _ _).mono ?_; rintro e n2w ⟨rfl, hb⟩; have hn2 : Below Z5.heap.size Z5 n2w := bnext hn1 hb; clear hb)
            (try go_wp2_with fail)
            clear hHeld
            refine hK.out _ _ (by (try dsimp only); exact KS.out _ hn2) (fun hHeld => ?_)
            clear hK K
            (try simp only [Act.put, List.setIfInBounds_toArray, List.set_cons_zero, List.set_cons_succ])
            refine wpAnyH_take (i := 6) (oi := Oper.mk (some 151) _ _ _ _ _) (v := ?_) rfl (by decide +kernel) (by decide +kernel) (by decide +kernel) (fun _ _ _ h => h) (Or.inl ⟨by rfl, ?_⟩) (by assumption) ?_
            rotate_left
            ·
             (intro w hSw; (try dsimp only at hSw); go_simp <;> (try with_reducible rfl))
            (try simp only [Act.put, List.setIfInBounds_toArray, List.set_cons_zero, List.set_cons_succ])
            refine wpAnyH_take (i := 7) (oi := Oper.mk (some 152) _ _ _ _ _) (v := ?_) rfl (by decide +kernel) (by decide +kernel) (by decide +kernel) (fun _ _ _ h => h) (Or.inl ⟨by rfl, ?_⟩) (by assumption) ?_
            rotate_left
            ·
             (intro w hSw; (try dsimp only at hSw); go_simp <;> (try with_reducible rfl))
            (try simp only [Act.put, List.setIfInBounds_toArray, List.set_cons_zero, List.set_cons_succ])
            refine wpAnyH_take (i := 8) (oi := Oper.mk (some 153) _ _ _ _ _) (v := ?_) rfl (by decide +kernel) (by decide +kernel) (by decide +kernel) (fun _ _ _ h => h) (Or.inl ⟨by rfl, ?_⟩) (by assumption) ?_
            rotate_left
            ·
             (intro w hSw; (try dsimp only at hSw); go_simp <;> (try with_reducible rfl))
            (try simp only [Act.put, List.setIfInBounds_toArray, List.set_cons_zero, List.set_cons_succ])
            refine wpAnyH_take (i := 9) (oi := Oper.mk (some 154) _ _ _ _ _) (v := ?_) rfl (by decide +kernel) (by decide +kernel) (by decide +kernel) (fun _ _ _ h => h) (Or.inl ⟨by rfl, ?_⟩) (by assumption) ?_
            rotate_left
            ·
             (intro w hSw; (try dsimp only at hSw); go_simp <;> (try with_reducible rfl))
            (try simp only [Act.put, List.setIfInBounds_toArray, List.set_cons_zero, List.set_cons_succ])
            refine wpAnyH_ready (rs := [10]) (by decide +kernel) (by simp) ?_
            refine AllReadyH.cons (o := Oper.mk (some 155) _ _ _ _ _) rfl (fun K hK => ?_) AllReadyH.nil
            go_simp
            (go_at_call 12; refine (num4_any _ _).mono ?_; rintro e n3w ⟨rfl, hb⟩; have hn3 : Below Z5.heap.size Z5 n3w := bnext hn2 hb; clear hb)
            (try go_wp2_with fail)
            clear hHeld
            refine hK.out _ _ (by (try dsimp only); exact KS.out _ hn3) (fun hHeld => ?_)
            clear hK K
            (try simp only [Act.put, List.setIfInBounds_toArray, List.set_cons_zero, List.set_cons_succ])
            refine wpAnyH_take (i := 11) (oi := Oper.mk (some 156) _ _ _ _ _) (v := ?_) rfl (by decide +kernel) (by decide +kernel) (by decide +kernel) (fun _ _ _ h => h) (Or.inl ⟨by rfl, ?_⟩) (by assumption) ?_
            rotate_left
            ·
             (intro w hSw; (try dsimp only at hSw); go_simp <;> (try with_reducible rfl))
            (try simp only [Act.put, List.setIfInBounds_toArray, List.set_cons_zero, List.set_cons_succ])
            refine wpAnyH_take (i := 12) (oi := Oper.mk (some 157) _ _ _ _ _) (v := ?_) rfl (by decide +kernel) (by decide +kernel) (by decide +kernel) (fun _ _ _ h => h) (Or.inl ⟨by rfl, ?_⟩) (by assumption) ?_
            rotate_left
            ·
             (intro w hSw; (try dsimp only at hSw); go_simp <;> (try with_reducible rfl))
            (try simp only [Act.put, List.setIfInBounds_toArray, List.set_cons_zero, List.set_cons_succ])
            refine wpAnyH_take (i := 13) (oi := Oper.mk (some 158) _ _ _ _ _) (v := ?_) rfl (by decide +kernel) (by decide +kernel) (by decide +kernel) (fun _ _ _ h => h) (Or.inl ⟨by rfl, ?_⟩) (by assumption) ?_
            rotate_left
            ·
             (intro w hSw; (try dsimp only at hSw); go_simp <;> (try with_reducible rfl))
            (try simp only [Act.put, List.setIfInBounds_toArray, List.set_cons_zero, List.set_cons_succ])
            refine wpAnyH_take (i := 14) (oi := Oper.mk (some 159) _ _ _ _ _) (v := ?_) rfl (by decide +kernel) (by decide +kernel) (by decide +kernel) (fun _ _ _ h => h) (Or.inl ⟨by rfl, ?_⟩) (by assumption) ?_
            rotate_left
            ·
             (intro w hSw; (try dsimp only at hSw); go_simp <;> (try with_reducible rfl))
            (try simp only [Act.put, List.setIfInBounds_toArray, List.set_cons_zero, List.set_cons_succ])
            refine wpAnyH_ready (rs := [15]) (by decide +kernel) (by simp) ?_
            refine AllReadyH.cons (o := Oper.mk (some 160) _ _ _ _ _) rfl (fun K hK => ?_) AllReadyH.nil
            go_simp
            (go_at_call 12; refine (num4_any _ _).mono ?_; rintro e n4w ⟨rfl, hb⟩; have hn4 : Below Z5.heap.size Z5 n4w := bnext hn3 hb; clear hb)
            (try go_wp2_with fail)
            clear hHeld
            refine hK.out _ _ (by (try dsimp only); exact KS.out _ hn4) (fun hHeld => ?_)
            clear hK K
            (try simp only [Act.put, List.setIfInBounds_toArray, List.set_cons_zero, List.set_cons_succ])
            refine wpAnyH_take (i := 16) (oi := Oper.mk (some 161) _ _ _ _ _) (v := ?_) rfl (by decide +kernel) (by decide +kernel) (by decide +kernel) (fun _ _ _ h => h) (Or.inl ⟨by rfl, ?_⟩) (by assumption) ?_
            rotate_left
            ·
             (intro w hSw; (try dsimp only at hSw); go_simp <;> (try with_reducible rfl))
            (try simp only [Act.put, List.setIfInBounds_toArray, List.set_cons_zero, List.set_cons_succ])
            refine wpAnyH_take (i := 17) (oi := Oper.mk (some 162) _ _ _ _ _) (v := ?_) rfl (by decide +kernel) (by decide +kernel) (by decide +kernel) (fun _ _ _ h => h) (Or.inl ⟨by rfl, ?_⟩) (by assumption) ?_
            rotate_left
            ·
             (intro w hSw; (try dsimp only at hSw); go_simp <;> (try with_reducible rfl))
            (try simp only [Act.put, List.setIfInBounds_toArray, List.set_cons_zero, List.set_cons_succ])
            refine wpAnyH_take (i := 18) (oi := Oper.mk (some 163) _ _ _ _ _) (v := ?_) rfl (by decide +kernel) (by decide +kernel) (by decide +kernel) (fun _ _ _ h => h) (Or.inl ⟨by rfl, ?_⟩) (by assumption) ?_
            rotate_left
            ·
             (intro w hSw; (try dsimp only at hSw); go_simp <;> (try with_reducible rfl))
            (try simp only [Act.put, List.setIfInBounds_toArray, List.set_cons_zero, List.set_cons_succ])
            refine wpAnyH_take (i := 19) (oi := Oper.mk (some 164) _ _ _ _ _) (v := ?_) rfl (by decide +kernel) (by decide +kernel) (by decide +kernel) (fun _ _ _ h => h) (Or.inl ⟨by rfl, ?_⟩) (by assumption) ?_
            rotate_left
            ·
             (intro w hSw; (try dsimp only at hSw); go_simp <;> (try with_reducible rfl))
            (try simp only [Act.put, List.setIfInBounds_toArray, List.set_cons_zero, List.set_cons_succ])
            refine wpAnyH_take (i := 20) (oi := Oper.mk (some 165) _ _ _ _ _) (v := ?_) rfl (by decide +kernel) (by decide +kernel) (by decide +kernel) (fun _ _ _ h => h) (Or.inl ⟨by rfl, ?_⟩) (by assumption) ?_
            rotate_left
            ·
             (intro w hSw; (try dsimp only at hSw); go_simp <;> (try with_reducible rfl))
            (try simp only [Act.put, List.setIfInBounds_toArray, List.set_cons_zero, List.set_cons_succ])
            refine wpAnyH_take (i := 21) (oi := Oper.mk (some 166) _ _ _ _ _) (v := ?_) rfl (by decide +kernel) (by decide +kernel) (by decide +kernel) (fun _ _ _ h => h) (Or.inl ⟨by rfl, ?_⟩) (by assumption) ?_
            rotate_left
            ·
             (intro w hSw; (try dsimp only at hSw); go_simp <;> (try with_reducible rfl))
            (try simp only [Act.put, List.setIfInBounds_toArray, List.set_cons_zero, List.set_cons_succ])
            refine wpAnyH_ready (rs := [22]) (by decide +kernel) (by simp) ?_
            refine AllReadyH.cons (o := Oper.mk (some 167) _ _ _ _ _) rfl (fun K hK => ?_) AllReadyH.nil
            go_simp
            (go_at_call 14; refine (qtimes_any nx ny ox px oy py lx cx mx kx ly cy my ky (evQ p a) (evQ s a) _ (HX.out _ hn4).2.1 (HX.out _ hn4).2.2.1 HSZ.out.1 HSZ.out.2).mono ?_; rintro e n5w ⟨n6', o6', l6', c6', p6', m6', k6', rfl, hr6, hb⟩; have hn5 : Below Z5.heap.size Z5 n5w := bnext hn4 hb; have H6 : Hid (RatAt n5w n6' o6' l6' c6' p6' m6' k6' (evQ p a * evQ s a)) := hr6; clear hr6 hb)
            (try go_wp2_with fail)
            clear hHeld
            refine hK.out _ _ (by (try dsimp only); exact KS.out _ hn5) (fun hHeld => ?_)
            clear hK K
            (try simp only [Act.put, List.setIfInBounds_toArray, List.set_cons_zero, List.set_cons_succ])
            refine wpAnyH_ready (rs := [23]) (by decide +kernel) (by simp) ?_
            refine AllReadyH.cons (o := Oper.mk (some 168) _ _ _ _ _) rfl (fun K hK => ?_) AllReadyH.nil
            go_simp
            (go_at_call 13; refine (eqrat_same ns n6' os ps o6' p6' ls cs ms ks l6' c6' m6' k6' (evQ p a * evQ s a) _ (HX.out _ hn5).2.2.2.1 H6.out (Nat.le_trans ((HX.out _ hn5).2.2.2.1.len (HSZ.out.1.mul HSZ.out.2)).1 (by decide)) (Nat.le_trans ((HX.out _ hn5).2.2.2.1.len (HSZ.out.1.mul HSZ.out.2)).2 (by decide))).mono ?_; rintro e n6w ⟨rfl, hb⟩; have hn6 : Below Z5.heap.size Z5 n6w := bnext hn5 hb; clear hb H6)
            (try go_wp2_with fail)
            clear hHeld
            refine hK.out _ _ (by (try dsimp only); exact KS.out _ hn6) (fun hHeld => ?_)
            clear hK K
            (try simp only [Act.put, List.setIfInBounds_toArray, List.set_cons_zero, List.set_cons_succ])
            refine wpAnyH_take (i := 24) (oi := Oper.mk (some 169) _ _ _ _ _) (v := ?_) rfl (by decide +kernel) (by decide +kernel) (by decide +kernel) (fun _ _ _ h => h) (Or.inl ⟨by rfl, ?_⟩) (by assumption) ?_
            rotate_left
            ·
             (intro w hSw; (try dsimp only at hSw); go_simp <;> (try with_reducible rfl))
            (try simp only [Act.put, List.setIfInBounds_toArray, List.set_cons_zero, List.set_cons_succ])
            refine wpAnyH_take (i := 25) (oi := Oper.mk (some 170) _ _ _ _ _) (v := ?_) rfl (by decide +kernel) (by decide +kernel) (by decide +kernel) (fun _ _ _ h => h) (Or.inl ⟨by rfl, ?_⟩) (by assumption) ?_
            rotate_left
            ·
             (intro w hSw; (try dsimp only at hSw); go_simp <;> (try with_reducible rfl))
            (try simp only [Act.put, List.setIfInBounds_toArray, List.set_cons_zero, List.set_cons_succ])
            refine wpAnyH_take (i := 26) (oi := Oper.mk (some 171) _ _ _ _ _) (v := ?_) rfl (by decide +kernel) (by decide +kernel) (by decide +kernel) (fun _ _ _ h => h) (Or.inl ⟨by rfl, ?_⟩) (by assumption) ?_
            rotate_left
            ·
             (intro w hSw; (try dsimp only at hSw); go_simp <;> (try with_reducible rfl))
            (try simp only [Act.put, List.setIfInBounds_toArray, List.set_cons_zero, List.set_cons_succ])
            refine wpAnyH_take (i := 27) (oi := Oper.mk (some 172) _ _ _ _ _) (v := ?_) rfl (by decide +kernel) (by decide +kernel) (by decide +kernel) (fun _ _ _ h => h) (Or.inl ⟨by rfl, ?_⟩) (by assumption) ?_
            rotate_left
            ·
             (intro w hSw; (try dsimp only at hSw); go_simp <;> (try with_reducible rfl))
            (try simp only [Act.put, List.setIfInBounds_toArray, List.set_cons_zero, List.set_cons_succ])
            refine wpAnyH_take (i := 28) (oi := Oper.mk (some 173) _ _ _ _ _) (v := ?_) rfl (by decide +kernel) (by decide +kernel) (by decide +kernel) (fun _ _ _ h => h) (Or.inl ⟨by rfl, ?_⟩) (by assumption) ?_
            rotate_left
            ·
             (intro w hSw; (try dsimp only at hSw); go_simp <;> (try with_reducible rfl))
            (try simp only [Act.put, List.setIfInBounds_toArray, List.set_cons_zero, List.set_cons_succ])
            refine wpAnyH_take (i := 29) (oi := Oper.mk (some 174) _ _ _ _ _) (v := ?_) rfl (by decide +kernel) (by decide +kernel) (by decide +kernel) (fun _ _ _ h => h) (Or.inl ⟨by rfl, ?_⟩) (by assumption) ?_
            rotate_left
            ·
             (intro w hSw; (try dsimp only at hSw); go_simp <;> (try with_reducible rfl))
            (try simp only [Act.put, List.setIfInBounds_toArray, List.set_cons_zero, List.set_cons_succ])
            refine wpAnyH_ready (rs := [30]) (by decide +kernel) (by simp) ?_
            refine AllReadyH.cons (o := Oper.mk (some 175) _ _ _ _ _) rfl (fun K hK => ?_) AllReadyH.nil
            go_simp
            (go_at_call 15; refine (qplus_any nx ny ox px oy py lx cx mx kx ly cy my ky (evQ p a) (evQ s a) _ (HX.out _ hn6).2.1 (HX.out _ hn6).2.2.1 HSZ.out.1 HSZ.out.2).mono ?_; rintro e n7w ⟨n6', o6', l6', c6', p6', m6', k6', rfl, hr6, hb⟩; have hn7 : Below Z5.heap.size Z5 n7w := bnext hn6 hb; have H7 : Hid (RatAt n7w n6' o6' l6' c6' p6' m6' k6' (evQ p a + evQ s a)) := hr6; clear hr6 hb)
            (try go_wp2_with fail)
            clear hHeld
            refine hK.out _ _ (by (try dsimp only); exact KS.out _ hn7) (fun hHeld => ?_)
            clear hK K
            (try simp only [Act.put, List.setIfInBounds_toArray, List.set_cons_zero, List.set_cons_succ])
            refine wpAnyH_ready (rs := [31]) (by decide +kernel) (by simp) ?_
            refine AllReadyH.cons (o := Oper.mk (some 176) _ _ _ _ _) rfl (fun K hK => ?_) AllReadyH.nil
            go_simp
            (go_at_call 13; refine (eqrat_same nt n6' ot pt o6' p6' lt ct mt kt l6' c6' m6' k6' (evQ p a + evQ s a) _ (HX.out _ hn7).2.2.2.2 H7.out (Nat.le_trans ((HX.out _ hn7).2.2.2.2.len (HSZ.out.1.add HSZ.out.2)).1 (by decide)) (Nat.le_trans ((HX.out _ hn7).2.2.2.2.len (HSZ.out.1.add HSZ.out.2)).2 (by decide))).mono ?_; rintro e n8w ⟨rfl, hb⟩; have hn8 : Below Z5.heap.size Z5 n8w := bnext hn7 hb; clear hb H7)
            (try go_wp2_with fail)
            clear hHeld
            refine hK.out _ _ (by (try dsimp only); exact KS.out _ hn8) (fun hHeld => ?_)
            clear hK K
            (try simp only [Act.put, List.setIfInBounds_toArray, List.set_cons_zero, List.set_cons_succ])
            refine wpAnyH_take (i := 32) (oi := Oper.mk (some 177) _ _ _ _ _) (v := ?_) rfl (by decide +kernel) (by decide +kernel) (by decide +kernel) (fun _ _ _ h => h) (Or.inl ⟨by rfl, ?_⟩) (by assumption) ?_
            rotate_left
            ·
             (intro w hSw; (try dsimp only at hSw); go_simp <;> (try with_reducible rfl))
            (try simp only [Act.put, List.setIfInBounds_toArray, List.set_cons_zero, List.set_cons_succ])
            refine wpAnyH_take (i := 33) (oi := Oper.mk (some 178) _ _ _ _ _) (v := ?_) rfl (by decide +kernel) (by decide +kernel) (by decide +kernel) (fun _ _ _ h => h) (Or.inl ⟨by rfl, ?_⟩) (by assumption) ?_
            rotate_left
            ·
             (intro w hSw; (try dsimp only at hSw); go_simp <;> (try with_reducible rfl))
            (try simp only [Act.put, List.setIfInBounds_toArray, List.set_cons_zero, List.set_cons_succ])
            refine wpAnyH_done (by decide +kernel) ?_ _
            refine NoPanic.normal ?_
            go_wp2
            go_meet
            exact ⟨rfl, hn8⟩
           case rest => as_aux_lemma =>
            obtain ⟨rfl, hB6'⟩ := hcut
            obtain ⟨Z6, hZ6⟩ : ∃ Z, Z = wc := ⟨_, rfl⟩
            subst hZ6
            have hB6 := bnext hB5 hB6'
            clear hB6' hB5 hB4 hB3 hB2 hB1 HX HSZ KS
            go_upto_region 19 with fail
            go_cut [16, 17] (fun s1 s2 wx => ∃ og lg, s1 = .slice og lg lg ∧ s2 = .int .i64 0 ∧ GP wx og lg lg 10000 (derP p) ∧ Below Z.heap.size Z wx ∧ Below Z6.heap.size Z6 wx)
            case first => as_aux_lemma =>
             have Tda0 : Hid True := trivial
             go_wp2_with (first
              | (go_at_call 16; have _t := Tda0; clear _t; refine (gder_any ao la ca 10000 _ _ ((HG.out _ hB6).1.mono (by decide) (by decide) : GP _ _ _ _ 10000 _)).mono ?_; rintro e da1 ⟨oda1, lda1, rfl, hpa, hb⟩; have hda1 : Below Z.heap.size Z da1 := bnext hB6 hb; have qda1 := hb; clear hb; have Gda1 : Hid (GP da1 oda1 lda1 lda1 10000 (derP p)) := (GP.mk' hpa (derP_lead HF.out.1.1) (((derP_lim HF.out.1.2.1 HF.out.1.2.2)).mono (by decide)) (Nat.le_trans (derP_short HF.out.1.2.2) (by decide)) (by decide)); clear hpa; have Tda1 : Hid True := trivial; clear Tda0))
             go_meet
             exact ⟨_, _, rfl, rfl, Gda1.out, hda1, qda1⟩
            case rest => as_aux_lemma =>
             obtain ⟨oda, lda, rfl, rfl, hgda, hB61, hq⟩ := hcut
             obtain ⟨Z61, hZn⟩ : ∃ Z, Z = wc := ⟨_, rfl⟩
             subst hZn
             have HDda : Hid (∀ V, Below Z61.heap.size Z61 V → GP V oda lda lda 10000 (derP p)) := fun V hV => hgda.later hV
             clear hgda hq 
             go_upto_region 20 with fail
             go_cut [18, 19] (fun s1 s2 wx => ∃ og lg, s1 = .slice og lg lg ∧ s2 = .int .i64 0 ∧ GP wx og lg lg 10000 (derP s) ∧ Below Z.heap.size Z wx ∧ Below Z61.heap.size Z61 wx)
             case first => as_aux_lemma =>
              have Tdb0 : Hid True := trivial
              go_wp2_with (first
               | (go_at_call 16; have _t := Tdb0; clear _t; refine (gder_any bo lb cb 10000 _ _ ((HG.out _ hB61).2.1.mono (by decide) (by decide) : GP _ _ _ _ 10000 _)).mono ?_; rintro e db1 ⟨odb1, ldb1, rfl, hpa, hb⟩; have hdb1 : Below Z.heap.size Z db1 := bnext hB61 hb; have qdb1 := hb; clear hb; have Gdb1 : Hid (GP db1 odb1 ldb1 ldb1 10000 (derP s)) := (GP.mk' hpa (derP_lead HF.out.2.1.1) (((derP_lim HF.out.2.1.2.1 HF.out.2.1.2.2)).mono (by decide)) (Nat.le_trans (derP_short HF.out.2.1.2.2) (by decide)) (by decide)); clear hpa; have Tdb1 : Hid True := trivial; clear Tdb0))
              go_meet
              exact ⟨_, _, rfl, rfl, Gdb1.out, hdb1, qdb1⟩
             case rest => as_aux_lemma =>
              obtain ⟨odb, ldb, rfl, rfl, hgdb, hB62, hq⟩ := hcut
              obtain ⟨Z62, hZn⟩ : ∃ Z, Z = wc := ⟨_, rfl⟩
              subst hZn
              have HDdb : Hid (∀ V, Below Z62.heap.size Z62 V → GP V odb ldb ldb 10000 (derP s)) := fun V hV => hgdb.later hV
              replace HDda : Hid (∀ V, Below Z62.heap.size Z62 V → GP V oda lda lda 10000 (derP p)) := fun V hV => HDda.out V (bnext hq hV)
              clear hgdb hq hB61
              go_upto_region 21 with fail
              go_cut [20, 21] (fun s1 s2 wx => ∃ og lg, s1 = .slice og lg lg ∧ s2 = .int .i64 0 ∧ GP wx og lg lg 10000 (derP (mulP p s)) ∧ Below Z.heap.size Z wx ∧ Below Z62.heap.size Z62 wx)
              case first => as_aux_lemma =>
               have Tdm0 : Hid True := trivial
               go_wp2_with (first
                | (go_at_call 16; have _t := Tdm1; clear _t; refine (gder_any odm1 ldm1 ldm1 10000 _ _ (Gdm1.out _ (Below.refl _ _))).mono ?_; rintro e dm2 ⟨odm2, ldm2, rfl, hpa, hb⟩; have hdm2 : Below Z.heap.size Z dm2 := bnext hdm1 hb; have qdm2 := hb; clear hb; have Gdm2 : Hid (GP dm2 odm2 ldm2 ldm2 10000 (derP (mulP p s))) := (GP.mk' hpa (derP_lead (mulP_lead HF.out.1.1 HF.out.2.1.1)) (((derP_lim (mulP_lim HF.out.1.2.1 HF.out.2.1.2.1 HF.out.1.2.2) (mulP_short HF.out.1.2.2 HF.out.2.1.2.2))).mono (by decide)) (Nat.le_trans (derP_short (mulP_short HF.out.1.2.2 HF.out.2.1.2.2)) (by decide)) (by decide)); clear hpa; have Tdm2 : Hid True := trivial; clear Tdm1)
                | (go_at_call 9; have _t := Tdm0; clear _t; refine (mul4_any ao bo la ca lb cb 10000 _ _ _ ((HG.out _ hB62).1.mono (by decide) (by decide) : GP _ _ _ _ 10000 _) ((HG.out _ hB62).2.1.mono (by decide) (by decide) : GP _ _ _ _ 10000 _)).mono ?_; rintro e dm1 ⟨odm1, ldm1, rfl, hpa, hb⟩; have hdm1 : Below Z.heap.size Z dm1 := bnext hB62 hb; have qdm1 := hb; clear hb; have Gdm1 : Hid (∀ V, Below dm1.heap.size dm1 V → GP V odm1 ldm1 ldm1 10000 (mulP p s)) := (fun V hV => GP.mk' (hpa.later hV) (mulP_lead HF.out.1.1 HF.out.2.1.1) (((mulP_lim HF.out.1.2.1 HF.out.2.1.2.1 HF.out.1.2.2)).mono (by decide)) (Nat.le_trans (mulP_short HF.out.1.2.2 HF.out.2.1.2.2) (by decide)) (by decide)); clear hpa; have Tdm1 : Hid True := trivial; clear Tdm0))
               go_meet
               exact ⟨_, _, rfl, rfl, Gdm2.out, hdm2, (bnext qdm1 qdm2)⟩
              case rest => as_aux_lemma =>
               obtain ⟨odm, ldm, rfl, rfl, hgdm, hB63, hq⟩ := hcut
               obtain ⟨Z63, hZn⟩ : ∃ Z, Z = wc := ⟨_, rfl⟩
               subst hZn
               have HDdm : Hid (∀ V, Below Z63.heap.size Z63 V → GP V odm ldm ldm 10000 (derP (mulP p s))) := fun V hV => hgdm.later hV
               replace HDda : Hid (∀ V, Below Z63.heap.size Z63 V → GP V oda lda lda 10000 (derP p)) := fun V hV => HDda.out V (bnext hq hV)
               replace HDdb : Hid (∀ V, Below Z63.heap.size Z63 V → GP V odb ldb ldb 10000 (derP s)) := fun V hV => HDdb.out V (bnext hq hV)
               clear hgdm hq hB62
               go_upto_region 22 with fail
               go_cut [205] (fun s205 wx => s205 = .bool false ∧ Below Z.heap.size Z wx)
               case first => as_aux_lemma =>
                have Td0 : Hid True := trivial
                go_wp2_with (first
                 | (go_at_call 8; have _t := Td3; clear _t; refine (eqpolys_at odm od3 ldm ldm ld3 ld3 10000 _ _ _ (HDdm.out _ (bnext (bnext qd1 qd2) qd3)) (Gd3.out _ (Below.refl _ _)) (poly_leibniz HF.out.1.1 HF.out.2.1.1)).mono ?_; rintro e d4 ⟨rfl, hb⟩; have hd4 : Below Z.heap.size Z d4 := bnext hd3 hb; have qd4 := hb; clear hb; have Td4 : Hid True := trivial; clear Td3)
                 | (go_at_call 10; have _t := Td2; clear _t; refine (add4_any od1 od2 ld1 ld1 ld2 ld2 10000 _ _ _ (Gd1.out _ qd2) (Gd2.out _ (Below.refl _ _))).mono ?_; rintro e d3 ⟨od3, ld3, rfl, hpa, hb⟩; have hd3 : Below Z.heap.size Z d3 := bnext hd2 hb; have qd3 := hb; clear hb; have Gd3 : Hid (∀ V, Below d3.heap.size d3 V → GP V od3 ld3 ld3 10000 (addP (mulP (derP p) s) (mulP p (derP s)))) := (fun V hV => GP.mk' (hpa.later hV) (addP_lead _ _) (((addP_lim (mulP_lim (derP_lim HF.out.1.2.1 HF.out.1.2.2) HF.out.2.1.2.1 (derP_short HF.out.1.2.2)) (mulP_lim HF.out.1.2.1 (derP_lim HF.out.2.1.2.1 HF.out.2.1.2.2) HF.out.1.2.2))).mono (by decide)) (Nat.le_trans (addP_short (mulP_short (derP_short HF.out.1.2.2) HF.out.2.1.2.2) (mulP_short HF.out.1.2.2 (derP_short HF.out.2.1.2.2))) (by decide)) (by decide)); clear hpa; have Td3 : Hid True := trivial; clear Td2)
                 | (go_at_call 9; have _t := Td1; clear _t; refine (mul4_any ao odb la ca ldb ldb 10000 _ _ _ ((HG.out _ hd1).1.mono (by decide) (by decide) : GP _ _ _ _ 10000 _) (HDdb.out _ qd1)).mono ?_; rintro e d2 ⟨od2, ld2, rfl, hpa, hb⟩; have hd2 : Below Z.heap.size Z d2 := bnext hd1 hb; have qd2 := hb; clear hb; have Gd2 : Hid (∀ V, Below d2.heap.size d2 V → GP V od2 ld2 ld2 10000 (mulP p (derP s))) := (fun V hV => GP.mk' (hpa.later hV) (mulP_lead HF.out.1.1 (derP_lead HF.out.2.1.1)) (((mulP_lim HF.out.1.2.1 (derP_lim HF.out.2.1.2.1 HF.out.2.1.2.2) HF.out.1.2.2)).mono (by decide)) (Nat.le_trans (mulP_short HF.out.1.2.2 (derP_short HF.out.2.1.2.2)) (by decide)) (by decide)); clear hpa; have Td2 : Hid True := trivial; clear Td1)
                 | (go_at_call 9; have _t := Td0; clear _t; refine (mul4_any oda bo lda lda lb cb 10000 _ _ _ (HDda.out _ (Below.refl _ _)) ((HG.out _ hB63).2.1.mono (by decide) (by decide) : GP _ _ _ _ 10000 _)).mono ?_; rintro e d1 ⟨od1, ld1, rfl, hpa, hb⟩; have hd1 : Below Z.heap.size Z d1 := bnext hB63 hb; have qd1 := hb; clear hb; have Gd1 : Hid (∀ V, Below d1.heap.size d1 V → GP V od1 ld1 ld1 10000 (mulP (derP p) s)) := (fun V hV => GP.mk' (hpa.later hV) (mulP_lead (derP_lead HF.out.1.1) HF.out.2.1.1) (((mulP_lim (derP_lim HF.out.1.2.1 HF.out.1.2.2) HF.out.2.1.2.1 (derP_short HF.out.1.2.2))).mono (by decide)) (Nat.le_trans (mulP_short (derP_short HF.out.1.2.2) HF.out.2.1.2.2) (by decide)) (by decide)); clear hpa; have Td1 : Hid True := trivial; clear Td0))
                go_meet
                exact ⟨rfl, hd4⟩
               case rest => as_aux_lemma =>
                obtain ⟨rfl, hB7⟩ := hcut
                obtain ⟨Z7, hZ7⟩ : ∃ Z, Z = wc := ⟨_, rfl⟩
                subst hZ7
                clear hB63 HDda HDdb HDdm
                by_cases hlb0 : lb = 0
                ·
                 have g0 : ¬ (0 : Int) < (lb : Int) := by omega
                 go_wp2
                 go_roundw
                 case rel => exact ⟨k + 1, by omega, by go_num, bnext HXB.out.2 (bnext HXZ.out hB7)⟩
                 case measure => simp [intOf]; omega
                have g0 : (0 : Int) < (lb : Int) := by omega
                go_upto_region 25 with fail
                go_cut [22, 23, 24, 25] (fun s22 s23 s24 s25 wx => ∃ qo lq ro lr q r, ∃ kk : Nat, s22 = .slice qo lq lq ∧ s23 = .slice ro lr lr ∧ s24 = .int .i64 (kk : Int) ∧ s25 = .int .i64 0 ∧ PolyAt wx qo lq lq q ∧ PolyAt wx ro lr lr r ∧ Lead q ∧ Lead r ∧ Lim 90000 q ∧ Lim 90000 r ∧ lr < s.length ∧ lq ≤ 11 ∧ kk ≤ 11 ∧ (∀ x, dig s (s.length - 1) ^ kk * ev p x = ev q x * ev s x + ev r x) ∧ Below Z7.heap.size Z7 wx)
                case first => as_aux_lemma =>
                 go_wp2_with (go_at_call 17; refine (gpdiv_any ao bo la ca lb cb p s _ (HG.out _ hB7).1 (HG.out _ hB7).2.1 (by omega) hla hlb (fun V hV => plcopied_any ao la ca p V (HG.out _ (bnext hB7 hV)).1.at' (by omega) (HF.out.1.2.1.mono (by decide)))).mono ?_; rintro e w8 ⟨qo, lq, ro, lr, q, r, kk, rfl, hq, hr, h5⟩; have H8 : Hid (PolyAt w8 qo lq lq q ∧ PolyAt w8 ro lr lr r ∧ Lead q ∧ Lead r ∧ Lim 90000 q ∧ Lim 90000 r ∧ lr < s.length ∧ lq ≤ 11 ∧ kk ≤ 11 ∧ (∀ x, dig s (s.length - 1) ^ kk * ev p x = ev q x * ev s x + ev r x) ∧ Below Z7.heap.size Z7 w8) := ⟨hq, hr, h5⟩; clear hq hr h5)
                 go_meet
                 exact ⟨_, _, _, _, _, _, _, rfl, rfl, rfl, rfl, H8.out⟩
                case rest => as_aux_lemma =>
                 obtain ⟨qo, lq, ro, lr, q, r, kk, rfl, rfl, rfl, rfl, hq, hr, hLq, hLr, hMq, hMr, hlr, hlq, hkk, hid, hB8'⟩ := hcut
                 obtain ⟨Z8, hZ8⟩ : ∃ Z, Z = wc := ⟨_, rfl⟩
                 subst hZ8
                 have hB8 := bnext hB7 hB8'
                 obtain ⟨cv, hcv⟩ : ∃ c, c = dig s (lb - 1) := ⟨_, rfl⟩
                 have HC : Hid (cv = dig s (lb - 1) ∧ lim cv ≤ 3 ∧ lim (cv ^ kk) ≤ 40) := by
                  have h3 : lim cv ≤ 3 := by rw [hcv]; exact HF.out.2.1.2.1 _
                  exact ⟨hcv, h3, by have := lim_powK cv 3 kk h3; omega⟩
                 have HI : Hid (∀ x, cv ^ kk * ev p x = ev q x * ev s x + ev r x) := fun x => by rw [HC.out.1, HF.out.2.2.2.2.2]; exact hid x
                 have HQ : Hid (∀ V, Below Z8.heap.size Z8 V → GP V qo lq lq 100000 q ∧ GP V ro lr lr 100000 r) := fun V hV => ⟨⟨hq.later hV, hLq, hMq.mono (by decide), by omega, by decide⟩, ⟨hr.later hV, hLr, hMr.mono (by decide), by have := HF.out.2.1.2.2; omega, by decide⟩⟩
                 have HN : Hid (q.length ≤ 11 ∧ r.length ≤ 11 ∧ Lead q ∧ Lead r ∧ Lim 90000 r) := ⟨by rw [← hq.hlen]; exact hlq, by rw [← hr.hlen]; have := HF.out.2.1.2.2; omega, hLq, hLr, hMr⟩
                 have hlrb : lr < lb := by rw [HF.out.2.2.2.2.2]; exact hlr
                 have y1 : decide ((kk : Int) < 0) = false := decide_eq_false (by omega)
                 have y2 : decide ((20 : Int) < (kk : Int)) = false := decide_eq_false (by omega)
                 have y3 : decide ((lb : Int) - 1 ≤ (lr : Int) - 1) = false := decide_eq_false (by omega)
                 have y4 : decide ((lb : Int) ≤ (lr : Int)) = false := decide_eq_false (by omega)
                 have HB8 : Hid (Below Z.heap.size Z Z8) := hB8
                 clear hq hr hLq hLr hMq hMr hlr hid hB8' hcv hB7 hB8
                 go_upto_region 26 with fail
                 go_cut [249] (fun s249 wx => s249 = .bool false ∧ Below Z8.heap.size Z8 wx)
                 case first => as_aux_lemma =>
                  have Tk0 : Hid True := trivial
                  go_wp2_with (first
                   | (go_at_call 21; have _t := Tk8; clear _t; refine (gdeg_any bo lb cb 3 s _ (HG.out _ (bnext HB8.out he8)).2.1).mono ?_; rintro e e9w ⟨rfl, hb⟩; have he9 : Below Z8.heap.size Z8 e9w := bnext he8 hb; clear hb; have Tk9 : Hid True := trivial; clear Tk8)
                   | (go_at_call 21; have _t := Tk7; clear _t; refine (gdeg_any ro lr lr 100000 r _ (HQ.out _ he7).2).mono ?_; rintro e e8w ⟨rfl, hb⟩; have he8 : Below Z8.heap.size Z8 e8w := bnext he7 hb; clear hb; have Tk8 : Hid True := trivial; clear Tk7)
                   | (go_at_call 8; have _t := Tk6; clear _t; refine (eqpolys_at os oa ls cs lA lA 100000 (trimL (tab la fun i => dig p i * cv ^ kk)) (trimL (tab la fun i => dig p i * cv ^ kk)) _ (GP.mk' HA.out.2 (trimL_lead _) (scaleF_lim HF.out.1.2.1 HC.out.2.2) (scaleF_short (by omega)) (by decide)) (GP.mk' HA.out.1 (trimL_lead _) (scaleF_lim HF.out.1.2.1 HC.out.2.2) (scaleF_short (by omega)) (by decide)) rfl).mono ?_; rintro e e7w ⟨rfl, hb⟩; have he7 : Below Z8.heap.size Z8 e7w := bnext he6 hb; clear HA; clear hb; have Tk7 : Hid True := trivial; clear Tk6)
                   | (go_at_call 10; have _t := Tk5; clear _t; refine (add4_any om ro lm lm lr lr 100000 (mulP q s) r _ HM.out.1 (HQ.out _ he5).2).mono ?_; rintro e e6w ⟨oa, lA, rfl, hpm, hb⟩; have he6 : Below Z8.heap.size Z8 e6w := bnext he5 hb; have HA : Hid (PolyAt e6w oa lA lA (trimL (tab la fun i => dig p i * cv ^ kk)) ∧ PolyAt e6w os ls cs (trimL (tab la fun i => dig p i * cv ^ kk))) := ⟨(by rw [pd_scale HF.out.2.2.2.2.1 HI.out]; exact hpm), HM.out.2.later hb⟩; clear hpm HM; clear hb; have Tk6 : Hid True := trivial; clear Tk5)
                   | (go_at_call 9; have _t := Tk4; clear _t; refine (mul4_any qo bo lq lq lb cb 100000 q s _ (HQ.out _ he4).1 ((HG.out _ (bnext HB8.out he4)).2.1.mono (by decide) (by decide))).mono ?_; rintro e e5w ⟨om, lm, rfl, hpm, hb⟩; have he5 : Below Z8.heap.size Z8 e5w := bnext he4 hb; have HM : Hid (GP e5w om lm lm 100000 (mulP q s) ∧ PolyAt e5w os ls cs (trimL (tab la fun i => dig p i * cv ^ kk))) := ⟨GP.mk' hpm (mulP_lead HN.out.2.2.1 HF.out.2.1.1) (pd_lim HI.out HF.out.1.2.1 HC.out.2.2 HN.out.2.2.2.2 (by decide)) (Nat.le_trans (mulP_short HN.out.1 HF.out.2.1.2.2) (by decide)) (by decide), HS.out.later hb⟩; clear hpm HS; clear hb; have Tk5 : Hid True := trivial; clear Tk4)
                   | (go_at_call 18; have _t := Tk3; clear _t; refine (pscale_any ao la ca 3 p n8 o8 l8 c8 (cv ^ kk) _ (HG.out _ (bnext HB8.out he3)).1.at' H8.out (by omega) (by decide) HF.out.1.2.1 (by omega)).mono ?_; rintro e e4w ⟨os, ls, cs, rfl, hps, _, hb⟩; have he4 : Below Z8.heap.size Z8 e4w := bnext he3 hb; have HS : Hid (PolyAt e4w os ls cs (trimL (tab la fun i => dig p i * cv ^ kk))) := hps; clear hps; clear hb; have Tk4 : Hid True := trivial; clear Tk3)
                   | (go_at_call 19; have _t := Tk2; clear _t; refine (rpow_any n9 o9 l9 c9 kk cv _ H9.out (by omega) (by omega)).mono ?_; rintro e e3w ⟨n8, o8, l8, c8, rfl, hi8, hb⟩; have he3 : Below Z8.heap.size Z8 e3w := bnext he2 hb; have hl8 : l8 ≤ 40 := (by rw [hi8.lim]; exact HC.out.2.2); have H8 : Hid (IntAt e3w n8 o8 l8 c8 (cv ^ kk)) := hi8; clear hi8; clear hb; have Tk3 : Hid True := trivial; clear Tk2)
                   | (go_at_call 20; have _t := Tk1; clear _t; refine (plead_any bo lb cb s _ (HG.out _ (bnext HB8.out he1)).2.1.at' (by omega)).mono ?_; rintro e e2w ⟨n9, o9, l9, c9, rfl, hi9, hb⟩; have he2 : Below Z8.heap.size Z8 e2w := bnext he1 hb; rw [← HC.out.1] at hi9; have hl9 : l9 ≤ 3 := (by rw [hi9.lim]; exact HC.out.2.1); have H9 : Hid (IntAt e2w n9 o9 l9 c9 cv) := hi9; clear hi9; clear hb; have Tk2 : Hid True := trivial; clear Tk1)
                   | (go_at_call 12; have _t := Tk0; clear _t; refine (num4_any _ _).mono ?_; rintro e e1w ⟨rfl, hb⟩; have he1 : Below Z8.heap.size Z8 e1w := bnext (Below.refl _ _) hb; clear hb; have Tk1 : Hid True := trivial; clear Tk0))
                  go_meet
                  exact ⟨congrArg Value.bool (decide_eq_false (by omega)), he9⟩
                 case rest => as_aux_lemma =>
                  obtain ⟨rfl, hB9⟩ := hcut
                  clear y1 y2 y3 y4
                  go_wp2
                  go_roundw
                  case rel => exact ⟨k + 1, by omega, by go_num, bnext HXB.out.2 (bnext HXZ.out (bnext HB8.out hB9))⟩
                  case measure => simp [intOf]; omega
   ·
    have g2 : ¬ (k : Int) < 15 := by omega
    go_wp2_with (go_at_call 22; refine (wakes4_any _).mono ?_; rintro e w1 ⟨rfl, hb1⟩)
    go_ret
    exact ⟨rfl, bnext hbel hb1⟩
  ·
   have g1 : ¬ (k : Int) + 1 < (len : Int) := by omega
   go_wp2_with (go_at_call 22; refine (wakes4_any _).mono ?_; rintro e w1 ⟨rfl, hb1⟩)
   go_ret
   exact ⟨rfl, bnext hbel hb1⟩
end Go.Proofs.YtgcahkhpbcklfaaGreatDoor
