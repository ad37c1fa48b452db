/-
  A pack of walks and facts: ZF.
-/
import Derived.Test.YtpbkonafojemiaaGreatDoorPK26
import Derived.Test.YtpbkonafojemiaaGreatDoorPK27
import Derived.Deep.DeepCutAuto
set_option maxRecDepth 100000
set_option maxHeartbeats 40000000
set_option linter.unusedVariables false
set_option linter.unusedSimpArgs false
namespace Go.Proofs.YtpbkonafojemiaaGreatDoor
open Go.RowKit
theorem bad1_two5 (m : Bool) : (m = true ∧ bad1 m = 0) ∨ (m = false ∧ bad1 m = 50) := by cases m <;> simp [bad1]
def XoAns (w w' : World) (e : Ending) (q : Prop) : Prop := ∃ (o : Option Addr) (l c : Nat) (er : Int), e = .returned (.tuple #[.slice o l c, .int .i64 er]) ∧ ((er = 0 ∧ q) ∨ (er = 52 ∧ ¬ q)) ∧ Below w.heap.size w w'
def lineL (a : Rat) : List Int := [-a.num, (a.den : Int)]
theorem line_facts {a : Rat} (hs : lim a.num ≤ 2 ∧ lim (a.den : Int) ≤ 2) : Lim 3 (lineL a) ∧ Lead (lineL a) ∧ (0 : Int) < (a.den : Int) ∧ a * (((a.den : Int)) : Rat) = ((a.num : Int) : Rat) ∧ Nat.Coprime ((a.den : Int)).natAbs (a.num).natAbs := by
 have hd : (0 : Int) < (a.den : Int) := by have := a.den_nz; omega
 refine ⟨fun t => ?_, fun _ => ?_, hd, ?_, ?_⟩
 ·
  match t with
  | 0 => show lim (-a.num) ≤ 3; rw [lim_neg]; omega
  | 1 => show lim ((a.den : Int)) ≤ 3; omega
  | t + 2 => rw [dig_past (by simp [lineL]), lim_zero]; omega
 ·
  show ((a.den : Int)) ≠ 0; omega
 ·
  have h1 : (a.num : Rat) / ((a.den : Nat) : Rat) = a := by rw [← Rat.mkRat_eq_div, Rat.mkRat_self]
  have h2 : ((a.den : Nat) : Rat) = ((a.den : Int) : Rat) := by norm_cast
  have h0 : ((a.den : Int) : Rat) ≠ 0 := by
   intro h
   have h2 : (a.den : Int) = 0 := by exact_mod_cast h
   omega
  have h3 : a = (a.num : Rat) * ((a.den : Int) : Rat)⁻¹ := by rw [← h2, ← Rat.div_def]; exact h1.symm
  have h4 := congrArg (· * ((a.den : Int) : Rat)) h3
  simp only [Rat.mul_assoc, Rat.inv_mul_cancel _ h0, Rat.mul_one] at h4
  exact h4
 ·
  rw [Int.natAbs_natCast]; exact a.reduced.symm
theorem gexact_any (ao bo : Option Addr) (la ca cb A : Nat) (p : List Int) (a : Rat) (w : World) (hp : GP w ao la ca A p) (hA : 3 ≤ A ∧ A ≤ 1000) (hb : PolyAt w bo 2 cb (lineL a)) (h0 : 0 < la) (hs : lim a.num ≤ 2 ∧ lim (a.den : Int) ≤ 2) :
  Calls Tryz.prog 11 #[.slice ao la ca, .slice bo 2 cb] w fun e w' => XoAns w w' e (evQ p a = 0) := by
 obtain ⟨f1, f2, f3, f4, f5⟩ := line_facts hs
 have hB : GP w bo 2 cb A (lineL a) := ⟨hb, f2, f1.mono hA.1, by omega, by omega⟩
 have h1 := gcheckDiv_any ao bo la ca 2 cb A p (lineL a) w hp hB (by omega)
 by_cases hl1 : la = 1
 ·
  subst hl1
  have HV : Hid (evQ p a ≠ 0) := by
   have e := hp.at'.hlen
   match p, e with
   | [c], _ =>
    have h2 := hp.lead (by simp)
    intro h3
    have h4 : ((c : Int) : Rat) = 0 := by simpa [evQ, Rat.mul_zero, Rat.add_zero] using h3
    have h5 : c = 0 := by exact_mod_cast h4
    exact h2 (by simpa [dig] using h5)
  have h2 : ∀ W, Calls Tryz.prog 28 #[.slice ao 1 ca, .slice bo 2 cb] W fun e w' => e = .returned (.tuple #[.slice none 0 0, .bool false]) ∧ Below W.heap.size W w' := fun W => by
   clear h1 hB hp HV
   go_enter Tryz.func28, Tryz.ntmps28
   go_wp2
   go_ret2
   exact ⟨rfl, Below.refl _ _⟩
  clear hp hB hb f1 f2 f3 f4 f5
  go_enter Tryz.func11, Tryz.ntmps11
  go_wp2_with (first
   | (go_at_call 27; refine h1.mono ?_; rintro e w1 ⟨rfl, hb1⟩)
   | (go_at_call 28; refine (h2 _).mono ?_; rintro e w2 ⟨rfl, hb2⟩))
  go_ret2
  exact ⟨_, _, _, _, rfl, Or.inr ⟨rfl, HV.out⟩, bnext hb1 hb2⟩
 ·
  obtain ⟨k, rfl⟩ : ∃ k, la = k + 1 := ⟨la - 1, by omega⟩
  have h2 : ∀ W, Below w.heap.size w W → Calls Tryz.prog 28 #[.slice ao (k + 1) ca, .slice bo 2 cb] W fun e w' => QoAns W w' e (evQ p a = 0) := fun W hW => equotient_any ao bo k ca cb A p (lineL a) a.num ((a.den : Int)) a W (hp.later hW).at' hp.lims hA.2 (hb.later hW) (by omega) (by have := hp.short; omega) rfl rfl f3 f1 f4 f5
  clear hp hB hb f1 f2 f3 f4 f5
  go_enter Tryz.func11, Tryz.ntmps11
  go_wp2_with (first
   | (go_at_call 27; refine h1.mono ?_; rintro e w1 ⟨rfl, hb1⟩)
   | (go_at_call 28; refine (h2 _ hb1).mono ?_; rintro e w2 ⟨o2, l2, c2, ok, rfl, hok, hb2⟩; cases ok <;> first | (have HG : Hid (evQ p a = 0) := hok.1 rfl; clear hok) | (have HN : Hid (evQ p a ≠ 0) := (fun h => by have := hok.2 h; cases this); clear hok)))
  all_goals go_ret2
  all_goals first
   | exact ⟨_, _, _, _, rfl, Or.inl ⟨rfl, HG.out⟩, bnext hb1 hb2⟩
   | exact ⟨_, _, _, _, rfl, Or.inr ⟨rfl, HN.out⟩, bnext hb1 hb2⟩
theorem polyLines_any (lo : Option Addr) (len cap : Nat) (w : World) (hE : Items5 w lo len) (hl : len ≤ 9223372036854775807) (hT : TabAt 0 Lib.deBruijn64tab w) :
  Calls Tryz.prog 3 #[.slice lo len cap] w fun e w' => e = .returned (.bool true) ∧ Below w.heap.size w w' := by
 have HE : Hid (Items5 w lo len ∧ TabAt 0 Lib.deBruijn64tab w) := ⟨hE, hT⟩
 clear hE hT
 go_enter Tryz.func3, Tryz.ntmps3
 go_wp2
 go_loopw [3] (fun i wr => ∃ k : Nat, k ≤ 15 ∧ i = .int .i64 (k : Int) ∧ Below w.heap.size w wr) (fun i _ => 15 - (intOf i).toNat)
 case atStart => exact ⟨0, Nat.zero_le _, rfl, Below.refl _ _⟩
 case round =>
  obtain ⟨wo, hwo⟩ : ∃ x, x = wr := ⟨_, rfl⟩
  subst hwo
  obtain ⟨k, hk, rfl, hbel⟩ := hrel
  have z0 : (0 : Int) ≤ (k : Int) := by omega
  by_cases hlt : k < len
  ·
   have g1 : (k : Int) < (len : Int) := by omega
   by_cases h15 : k < 15
   ·
    have g2 : (k : Int) < 15 := by omega
    obtain ⟨b, off, rfl, hblt, hit⟩ := HE.out.1 k hlt
    refine hit.elim ?_
    intro ao bo co la ca lb cb lc cc n n4 n5 n6 o4 p4 o5 p5 o6 p6 l4 c4 m4 k4 l5 c5 m5 k5 l6 c6 m6 k6 rs ts zs ds ⟨hcell, ⟨hp, hs, hca, hcb⟩, hz, hzw, hd, hdw⟩
    have d0 : wo.cell? ⟨b, off + k * 13, none⟩ = some (.slice ao la ca) := (hbel.cell (p := ⟨b, off + k * 13, none⟩) hblt).trans (hcell 0 _ rfl)
    have d1 : wo.cell? ⟨b, off + k * 13 + 1, none⟩ = some (.slice bo lb cb) := (hbel.cell (p := ⟨b, off + k * 13 + 1, none⟩) hblt).trans (hcell 1 _ rfl)
    have d2 : wo.cell? ⟨b, off + k * 13 + 2, none⟩ = some (.bool n) := (hbel.cell (p := ⟨b, off + k * 13 + 2, none⟩) hblt).trans (hcell 2 _ rfl)
    have d3 : wo.cell? ⟨b, off + k * 13 + 3, none⟩ = some (.slice co lc cc) := (hbel.cell (p := ⟨b, off + k * 13 + 3, none⟩) hblt).trans (hcell 3 _ rfl)
    have d4 : wo.cell? ⟨b, off + k * 13 + 4, none⟩ = some (.bool n4) := (hbel.cell (p := ⟨b, off + k * 13 + 4, none⟩) hblt).trans (hcell 4 _ rfl)
    have d5 : wo.cell? ⟨b, off + k * 13 + 5, none⟩ = some (.slice o4 l4 c4) := (hbel.cell (p := ⟨b, off + k * 13 + 5, none⟩) hblt).trans (hcell 5 _ rfl)
    have d6 : wo.cell? ⟨b, off + k * 13 + 6, none⟩ = some (.slice p4 m4 k4) := (hbel.cell (p := ⟨b, off + k * 13 + 6, none⟩) hblt).trans (hcell 6 _ rfl)
    have d7 : wo.cell? ⟨b, off + k * 13 + 7, none⟩ = some (.bool n5) := (hbel.cell (p := ⟨b, off + k * 13 + 7, none⟩) hblt).trans (hcell 7 _ rfl)
    have d8 : wo.cell? ⟨b, off + k * 13 + 8, none⟩ = some (.slice o5 l5 c5) := (hbel.cell (p := ⟨b, off + k * 13 + 8, none⟩) hblt).trans (hcell 8 _ rfl)
    have d9 : wo.cell? ⟨b, off + k * 13 + 9, none⟩ = some (.slice p5 m5 k5) := (hbel.cell (p := ⟨b, off + k * 13 + 9, none⟩) hblt).trans (hcell 9 _ rfl)
    have d10 : wo.cell? ⟨b, off + k * 13 + 10, none⟩ = some (.bool n6) := (hbel.cell (p := ⟨b, off + k * 13 + 10, none⟩) hblt).trans (hcell 10 _ rfl)
    have d11 : wo.cell? ⟨b, off + k * 13 + 11, none⟩ = some (.slice o6 l6 c6) := (hbel.cell (p := ⟨b, off + k * 13 + 11, none⟩) hblt).trans (hcell 11 _ rfl)
    have d12 : wo.cell? ⟨b, off + k * 13 + 12, none⟩ = some (.slice p6 m6 k6) := (hbel.cell (p := ⟨b, off + k * 13 + 12, none⟩) hblt).trans (hcell 12 _ rfl)
    obtain ⟨X, hX⟩ : ∃ X, X = wo.alloc (.cells #[.slice ao la ca, .slice bo lb cb, .bool n, .slice co lc cc, .bool n4, .slice o4 l4 c4, .slice p4 m4 k4, .bool n5, .slice o5 l5 c5, .slice p5 m5 k5, .bool n6, .slice o6 l6 c6, .slice p6 m6 k6] 34) := ⟨_, rfl⟩
    have HXB : Hid (Below wo.heap.size wo X ∧ Below w.heap.size w X) := by rw [hX]; exact ⟨(Below.refl _ _).alloc (Nat.le_refl _) _, bnext hbel ((Below.refl _ _).alloc (Nat.le_refl _) _)⟩
    have HCL : Hid (∀ V, Below X.heap.size X V → Cells V wo.heap.size [.slice ao la ca, .slice bo lb cb, .bool n, .slice co lc cc, .bool n4, .slice o4 l4 c4, .slice p4 m4 k4, .bool n5, .slice o5 l5 c5, .slice p5 m5 k5, .bool n6, .slice o6 l6 c6, .slice p6 m6 k6]) := by
     rw [hX]
     exact fun V hb => (Cells.new wo #[.slice ao la ca, .slice bo lb cb, .bool n, .slice co lc cc, .bool n4, .slice o4 l4 c4, .slice p4 m4 k4, .bool n5, .slice o5 l5 c5, .slice p5 m5 k5, .bool n6, .slice o6 l6 c6, .slice p6 m6 k6] 34).later hb (by simp)
    have HP0 : Hid (RawsAt X ao la ca rs ∧ RawsAt X bo lb cb ts ∧ RowAt X .u64 o4 l4 c4 zs ∧ RowAt X .u64 p4 m4 k4 ds ∧ TabAt 0 Lib.deBruijn64tab X) := ⟨hp.later HXB.out.2, hs.later HXB.out.2, hz.later HXB.out.2, hd.later HXB.out.2, tab_later HE.out.2 HXB.out.2⟩
    have HW0 : Hid ((la ≤ 9223372036854775807 ∧ lb ≤ 9223372036854775807) ∧ Wd 18446744073709551616 zs ∧ Wd 18446744073709551616 ds) := ⟨⟨Nat.le_trans hp.hcap hca, Nat.le_trans hs.hcap hcb⟩, hzw, hdw⟩
    clear hcell hp hs hz hd hzw hdw hca hcb hit hblt
    go_upto_if 27 with (go_at_call 4; rw [← hX]; clear hX; refine (heavy4s_any ao bo co la ca lb cb lc cc n n4 n5 n6 o4 p4 o5 p5 o6 p6 l4 c4 m4 k4 l5 c5 m5 k5 l6 c6 m6 k6 rs ts _ HP0.out.1 HP0.out.2.1 HW0.out.1.1 HW0.out.1.2).mono ?_; rintro e Y ⟨hv, rfl, hcond, hBy⟩)
    clear d0 d1 d2 d3 d4 d5 d6 d7 d8 d9 d10 d11 d12
    cases hv
    rotate_left
    ·
     go_wp2
     go_ret
     exact ⟨rfl, bnext HXB.out.2 hBy⟩
    obtain ⟨hP, hQ, _, hl4, hm4⟩ := hcond rfl
    obtain ⟨hla, hlimP⟩ := heavyB_false hP
    replace hla : la ≤ 11 := hla
    have HLM : Hid (∀ r ∈ rs, r.2.length ≤ 3) := hlimP
    have HBY : Hid (Below X.heap.size X Y) := hBy
    clear hP hQ hlimP hcond
    obtain ⟨mP, hmP⟩ : ∃ m, pmayB la rs = m := ⟨_, rfl⟩
    obtain ⟨mA, hmA⟩ : ∃ m, mayR n4 zs ds = m := ⟨_, rfl⟩
    have HMM : Hid (pmayB la rs = mP ∧ mayR n4 zs ds = mA) := ⟨hmP, hmA⟩
    clear hmP hmA
    go_upto_region 7 with fail
    go_cut [42] (fun s42 wx => ∃ hb, s42 = .bool hb ∧ (hb = false → mP = true ∧ mA = true ∧ 0 < la) ∧ Below Y.heap.size Y wx)
    case first => as_aux_lemma =>
     have fq0 := HCL.out Y HBY.out 0 _ rfl; have fq1 := HCL.out Y HBY.out 1 _ rfl; have fq2 := HCL.out Y HBY.out 2 _ rfl; have fq3 := HCL.out Y HBY.out 3 _ rfl; have fq4 := HCL.out Y HBY.out 4 _ rfl; have fq5 := HCL.out Y HBY.out 5 _ rfl; have fq6 := HCL.out Y HBY.out 6 _ rfl; have fq7 := HCL.out Y HBY.out 7 _ rfl; have fq8 := HCL.out Y HBY.out 8 _ rfl; have fq9 := HCL.out Y HBY.out 9 _ rfl; have fq10 := HCL.out Y HBY.out 10 _ rfl; have fq11 := HCL.out Y HBY.out 11 _ rfl; have fq12 := HCL.out Y HBY.out 12 _ rfl
     rcases bad1_two5 mP with ⟨q, qc⟩ | ⟨q, qc⟩
     ·
      have HQ : Hid (mP = true) := q
      have HBD : Hid (bad1 mP = 0) := qc
      clear q qc
      cases hma : mA
      ·
       have HMA : Hid (mayR n4 zs ds = false) := by rw [← hma]; exact HMM.out.2
       clear hma
       go_wp2_with (first
        | (go_at_call 6; refine (qmay_any n4 o4 p4 l4 c4 m4 k4 zs ds _ (HP0.out.2.2.1.later (bnext HBY.out hb1)) HW0.out.2.1 (HP0.out.2.2.2.1.later (bnext HBY.out hb1)) HW0.out.2.2 (by omega) (by omega) false HMA.out).mono ?_; rintro e y2 ⟨rfl, hb2'⟩; have hb2 := bnext hb1 hb2'; clear hb2' fq4 fq5 fq6; have fq0 := HCL.out y2 (bnext HBY.out hb2) 0 _ rfl)
        | (go_at_call 5; refine (one4_any ao bo co la ca lb cb lc cc n n4 n5 n6 o4 p4 o5 p5 o6 p6 l4 c4 m4 k4 l5 c5 m5 k5 l6 c6 m6 k6 rs _ (HP0.out.1.later HBY.out) (by omega) HLM.out mP HMM.out.1 0 HBD.out).mono ?_; rintro e y1 ⟨rfl, hb1⟩; clear fq0 fq1 fq2 fq3 fq4 fq5 fq6 fq7 fq8 fq9 fq10 fq11 fq12; have fq4 := HCL.out y1 (bnext HBY.out hb1) 4 _ rfl; have fq5 := HCL.out y1 (bnext HBY.out hb1) 5 _ rfl; have fq6 := HCL.out y1 (bnext HBY.out hb1) 6 _ rfl))
       go_meet
       exact ⟨true, rfl, fun h => (by cases h), hb2⟩
      ·
       have HMA : Hid (mayR n4 zs ds = true) := by rw [← hma]; exact HMM.out.2
       have HMC : Hid (mA = true) := hma
       clear hma
       obtain ⟨zl, hzl⟩ : ∃ zl, ((la : Int) == 0) = zl := ⟨_, rfl⟩
       have HZL : Hid (((la : Int) == 0) = zl) := hzl
       go_wp2_with (first
        | (go_at_call 6; refine (qmay_any n4 o4 p4 l4 c4 m4 k4 zs ds _ (HP0.out.2.2.1.later (bnext HBY.out hb1)) HW0.out.2.1 (HP0.out.2.2.2.1.later (bnext HBY.out hb1)) HW0.out.2.2 (by omega) (by omega) true HMA.out).mono ?_; rintro e y2 ⟨rfl, hb2'⟩; have hb2 := bnext hb1 hb2'; clear hb2' fq4 fq5 fq6; have fq0 := HCL.out y2 (bnext HBY.out hb2) 0 _ rfl)
        | (go_at_call 5; refine (one4_any ao bo co la ca lb cb lc cc n n4 n5 n6 o4 p4 o5 p5 o6 p6 l4 c4 m4 k4 l5 c5 m5 k5 l6 c6 m6 k6 rs _ (HP0.out.1.later HBY.out) (by omega) HLM.out mP HMM.out.1 0 HBD.out).mono ?_; rintro e y1 ⟨rfl, hb1⟩; clear fq0 fq1 fq2 fq3 fq4 fq5 fq6 fq7 fq8 fq9 fq10 fq11 fq12; have fq4 := HCL.out y1 (bnext HBY.out hb1) 4 _ rfl; have fq5 := HCL.out y1 (bnext HBY.out hb1) 5 _ rfl; have fq6 := HCL.out y1 (bnext HBY.out hb1) 6 _ rfl))
       go_meet
       refine ⟨zl, rfl, fun h => ⟨HQ.out, HMC.out, ?_⟩, hb2⟩
       have h2 := HZL.out
       rw [h] at h2
       simp at h2
       omega
     ·
      have HBD : Hid (bad1 mP = 50) := qc
      clear q qc
      go_wp2_with (go_at_call 5; refine (one4_any ao bo co la ca lb cb lc cc n n4 n5 n6 o4 p4 o5 p5 o6 p6 l4 c4 m4 k4 l5 c5 m5 k5 l6 c6 m6 k6 rs _ (HP0.out.1.later HBY.out) (by omega) HLM.out mP HMM.out.1 50 HBD.out).mono ?_; rintro e y1 ⟨rfl, hb1⟩; clear fq0 fq1 fq2 fq3 fq4 fq5 fq6 fq7 fq8 fq9 fq10 fq11 fq12; have fq4 := HCL.out y1 (bnext HBY.out hb1) 4 _ rfl; have fq5 := HCL.out y1 (bnext HBY.out hb1) 5 _ rfl; have fq6 := HCL.out y1 (bnext HBY.out hb1) 6 _ rfl)
      go_meet
      exact ⟨true, rfl, fun h => (by cases h), hb1⟩
    case rest => as_aux_lemma =>
     obtain ⟨hb, rfl, hcond, hBz⟩ := hcut
     obtain ⟨Z, hZ⟩ : ∃ Z, Z = wc := ⟨_, rfl⟩
     subst hZ
     have HXZ : Hid (Below X.heap.size X Z ∧ Below w.heap.size w Z) := ⟨bnext HBY.out hBz, bnext HXB.out.2 (bnext HBY.out hBz)⟩
     cases hb
     rotate_left
     ·
      go_wp2
      go_roundw
      case rel => exact ⟨k + 1, by omega, by go_num, HXZ.out.2⟩
      case measure => simp [intOf]; omega
     obtain ⟨qP, qA, hla0⟩ := hcond rfl
     clear hcond hBz hBy
     obtain ⟨p, hp⟩ := parg_of_raws HP0.out.1 hla (rv_lim HLM.out)
     rw [HMM.out.1] at hp
     obtain ⟨a, ha, hza, hda⟩ := rat_of_may HP0.out.2.2.1 HW0.out.2.1 HP0.out.2.2.2.1 HW0.out.2.2 (HMM.out.2.trans qA)
     have HG : Hid (∀ V, Below Z.heap.size Z V → GP V ao la ca 3 p ∧ RatAt V n4 o4 l4 c4 p4 m4 k4 a ∧ TabAt 0 Lib.deBruijn64tab V ∧ Cells V wo.heap.size [.slice ao la ca, .slice bo lb cb, .bool n, .slice co lc cc, .bool n4, .slice o4 l4 c4, .slice p4 m4 k4, .bool n5, .slice o5 l5 c5, .slice p5 m5 k5, .bool n6, .slice o6 l6 c6, .slice p6 m6 k6]) := fun V hV => by
      have h := bnext HXZ.out.1 hV
      obtain ⟨a1, a2, a3⟩ := (hp.later h).good qP
      exact ⟨⟨a1, a2, a3, by omega, by decide⟩, ha.later h, tab_later HP0.out.2.2.2.2 h, HCL.out V h⟩
     have HF : Hid ((Lead p ∧ Lim 3 p ∧ p.length ≤ 11 ∧ la = p.length) ∧ (lim a.num ≤ 2 ∧ lim (a.den : Int) ≤ 2)) := by
      obtain ⟨a1, a2, a3⟩ := hp.good qP
      have h1 := a1.hlen
      have h4 := ha.num.lim
      have h5 := (row_int ha.den).lim
      exact ⟨⟨a2, a3, by omega, h1⟩, by omega, by omega⟩
     clear hp ha hza hda qP qA HMM HLM HW0 HP0
     go_upto_region 8 with fail
     have KS : Hid (∀ w', Below Z.heap.size Z w' → w'.cell? ⟨wo.heap.size, 4, none⟩ = some (.bool n4) ∧ w'.cell? ⟨wo.heap.size, 5, none⟩ = some (.slice o4 l4 c4) ∧ w'.cell? ⟨wo.heap.size, 6, none⟩ = some (.slice p4 m4 k4)) := fun w' hb => ⟨(HG.out w' hb).2.2.2 4 _ rfl, (HG.out w' hb).2.2.2 5 _ rfl, (HG.out w' hb).2.2.2 6 _ rfl⟩
     go_cut [5] (fun s5 wx => ∃ lr, s5 = .slice (some ⟨lr, 0, none⟩) 2 2 ∧ PolyAt wx (some ⟨lr, 0, none⟩) 2 2 (lineL a) ∧ Below Z.heap.size Z wx)
     case first => as_aux_lemma =>
      have HAL : Hid (∀ y2, Below Z.heap.size Z y2 → Below Z.heap.size Z y2) := fun _ h => h
      refine wp_region_noPanic ?_
      refine wp_region_held_drew (S := fun w' => (w'.cell? ⟨wo.heap.size, 4, none⟩ = some (.bool n4) ∧ w'.cell? ⟨wo.heap.size, 5, none⟩ = some (.slice o4 l4 c4) ∧ w'.cell? ⟨wo.heap.size, 6, none⟩ = some (.slice p4 m4 k4))) (by kernel_rfl) (by (try dsimp only); exact KS.out _ (Below.refl _ _).drew) (fun hHeld => ?_)
      refine wpAnyH_take (i := 0) (oi := Oper.mk (some 43) _ _ _ _ _) (v := ?_) rfl (by decide +kernel) (by decide +kernel) (by decide +kernel) (fun _ _ _ h => h) (Or.inl ⟨by rfl, ?_⟩) (by assumption) ?_
      rotate_left
      ·
       (intro w hSw; (try dsimp only at hSw); go_simp <;> (try with_reducible rfl))
      (try simp only [Act.put, List.setIfInBounds_toArray, List.set_cons_zero, List.set_cons_succ])
      refine wpAnyH_take (i := 1) (oi := Oper.mk (some 44) _ _ _ _ _) (v := ?_) rfl (by decide +kernel) (by decide +kernel) (by decide +kernel) (fun _ _ _ h => h) (Or.inl ⟨by rfl, ?_⟩) (by assumption) ?_
      rotate_left
      ·
       (intro w hSw; (try dsimp only at hSw); go_simp <;> (try with_reducible rfl))
      (try simp only [Act.put, List.setIfInBounds_toArray, List.set_cons_zero, List.set_cons_succ])
      refine wpAnyH_take (i := 2) (oi := Oper.mk (some 45) _ _ _ _ _) (v := ?_) rfl (by decide +kernel) (by decide +kernel) (by decide +kernel) (fun _ _ _ h => h) (Or.inl ⟨by rfl, ?_⟩) (by assumption) ?_
      rotate_left
      ·
       (intro w hSw; (try dsimp only at hSw); go_simp <;> (try with_reducible rfl))
      (try simp only [Act.put, List.setIfInBounds_toArray, List.set_cons_zero, List.set_cons_succ])
      refine wpAnyH_take (i := 4) (oi := Oper.mk (some 47) _ _ _ _ _) (v := ?_) rfl (by decide +kernel) (by decide +kernel) (by decide +kernel) (fun _ _ _ h => h) (Or.inl ⟨by rfl, ?_⟩) (by assumption) ?_
      rotate_left
      ·
       (intro w hSw; (try dsimp only at hSw); go_simp <;> (try with_reducible rfl))
      (try simp only [Act.put, List.setIfInBounds_toArray, List.set_cons_zero, List.set_cons_succ])
      refine wpAnyH_take (i := 5) (oi := Oper.mk (some 48) _ _ _ _ _) (v := ?_) rfl (by decide +kernel) (by decide +kernel) (by decide +kernel) (fun _ _ _ h => h) (Or.inl ⟨by rfl, ?_⟩) (by assumption) ?_
      rotate_left
      ·
       (intro w hSw; (try dsimp only at hSw); go_simp <;> (try with_reducible rfl))
      (try simp only [Act.put, List.setIfInBounds_toArray, List.set_cons_zero, List.set_cons_succ])
      refine wpAnyH_take (i := 6) (oi := Oper.mk (some 49) _ _ _ _ _) (v := ?_) rfl (by decide +kernel) (by decide +kernel) (by decide +kernel) (fun _ _ _ h => h) (Or.inl ⟨by rfl, ?_⟩) (by assumption) ?_
      rotate_left
      ·
       (intro w hSw; (try dsimp only at hSw); go_simp <;> (try with_reducible rfl))
      (try simp only [Act.put, List.setIfInBounds_toArray, List.set_cons_zero, List.set_cons_succ])
      refine wpAnyH_ready (rs := [3]) (by decide +kernel) (by simp) ?_
      refine AllReadyH.cons (o := Oper.mk (some 46) _ _ _ _ _) rfl (fun K hK => ?_) AllReadyH.nil
      go_simp
      (go_at_call 7; refine (rneg_any n4 o4 l4 c4 a.num _ ((HG.out _ (Below.refl _ _).drew).2.1.num) (by omega)).mono ?_; rintro e y1 ⟨n5', o5', l5', c5', rfl, hi5, hb⟩; have hb1 : Below Z.heap.size Z y1 := bnext (Below.refl _ _).drew hb; have H5 : Hid (IntAt y1 n5' o5' l5' c5' (-a.num)) := hi5; clear hi5 hb)
      (try go_wp2_with fail)
      clear hHeld
      refine hK.out _ _ (by (try dsimp only); exact KS.out _ hb1) (fun hHeld => ?_)
      clear hK K
      (try simp only [Act.put, List.setIfInBounds_toArray, List.set_cons_zero, List.set_cons_succ])
      refine wpAnyH_ready (rs := [7]) (by decide +kernel) (by simp) ?_
      refine AllReadyH.cons (o := Oper.mk (some 50) _ _ _ _ _) rfl (fun K hK => ?_) AllReadyH.nil
      go_simp
      (go_at_call 8; refine (made_any false p4 m4 k4 _ (by omega)).mono ?_; rintro e y2 ⟨rfl, hb⟩; have hb2 : Below Z.heap.size Z y2 := bnext hb1 hb; have H6 : Hid (IntAt y2 n5' o5' l5' c5' (-a.num) ∧ IntAt y2 false p4 m4 k4 (a.den : Int)) := ⟨H5.out.later hb, row_int ((HG.out _ hb2).2.1.den)⟩; clear hb H5)
      (try go_wp2_with fail)
      clear hHeld
      refine hK.out _ _ (by (try dsimp only); exact KS.out _ hb2) (fun hHeld => ?_)
      clear hK K
      (try simp only [Act.put, List.setIfInBounds_toArray, List.set_cons_zero, List.set_cons_succ])
      refine wpAnyH_ready (rs := [8]) (by decide +kernel) (by simp) ?_
      refine AllReadyH.cons (o := Oper.mk (some 51) _ _ _ _ _) rfl (fun K hK => ?_) AllReadyH.nil
      go_simp
      clear hHeld
      refine hK.out _ _ (by (try dsimp only); exact KS.out _ (below_alloc hb2 (Nat.le_refl _))) (fun hHeld => ?_)
      clear hK K
      (try simp only [Act.put, List.setIfInBounds_toArray, List.set_cons_zero, List.set_cons_succ])
      refine wpAnyH_take (i := 9) (oi := Oper.mk (some 5) _ _ _ _ _) (v := ?_) rfl (by decide +kernel) (by decide +kernel) (by decide +kernel) (fun _ _ _ h => h) (Or.inl ⟨by rfl, ?_⟩) (by assumption) ?_
      rotate_left
      ·
       (intro w hSw; (try dsimp only at hSw); go_simp <;> (try with_reducible rfl))
      (try simp only [Act.put, List.setIfInBounds_toArray, List.set_cons_zero, List.set_cons_succ])
      refine wpAnyH_done (by decide +kernel) ?_ _
      refine NoPanic.normal ?_
      go_wp2
      go_meet
      have hA : Below y2.heap.size y2 (y2.alloc (.cells #[.bool n5', .slice o5' l5' c5', .bool false, .slice p4 m4 k4] 28)) := (Below.refl _ _).alloc (Nat.le_refl _) _
      exact ⟨_, rfl, poly_two (Cells.new y2 #[.bool n5', .slice o5' l5' c5', .bool false, .slice p4 m4 k4] 28) (H6.out.1.later hA) (H6.out.2.later hA), below_alloc hb2 (Nat.le_refl _)⟩
     case rest => as_aux_lemma =>
      obtain ⟨lr, rfl, hline, hB1⟩ := hcut
      obtain ⟨U, hU⟩ : ∃ U, U = wc := ⟨_, rfl⟩
      subst hU
      have HU : Hid ((∀ V, Below U.heap.size U V → PolyAt V (some ⟨lr, 0, none⟩) 2 2 (lineL a)) ∧ Below Z.heap.size Z U) := ⟨fun V hV => hline.later hV, hB1⟩
      clear hline hB1 KS
      go_wp2_with fail
      go_loopw [6] (fun ii wr => ∃ j : Nat, j ≤ 2 ∧ ii = .int .i64 (j : Int) ∧ Below U.heap.size U wr) (fun ii _ => 2 - (intOf ii).toNat)
      case atStart => exact ⟨0, by omega, rfl, Below.refl _ _⟩
      case round =>
       obtain ⟨j, hj, rfl, hbu⟩ := hrel
       have HBU : Hid (Below U.heap.size U wr ∧ Below Z.heap.size Z wr) := ⟨hbu, bnext HU.out.2 hbu⟩
       clear hbu
       by_cases hj2 : j = 2
       ·
        subst hj2
        go_wp2
        go_roundw
        case rel => exact ⟨k + 1, by omega, by go_num, bnext HXZ.out.2 HBU.out.2⟩
        case measure => simp [intOf]; omega
       have fq0 := (HG.out _ HBU.out.2).2.2.2 0 _ rfl
       obtain ⟨jb, hjb⟩ : ∃ jb, ((j : Int) == 1) = jb := ⟨_, rfl⟩
       have HJB : Hid (((j : Int) == 1) = jb ∧ j < 2) := ⟨hjb, by omega⟩
       have gj : (j : Int) < 2 := by omega
       go_upto_if 59 with fail
       clear fq0 hjb
       go_cut [7] (fun s7 wx => ∃ fo fl fc F, s7 = .slice fo fl fc ∧ GP wx fo fl fc 100 F ∧ 0 < fl ∧ Below U.heap.size U wx)
       case first => as_aux_lemma =>
        cases jb
        ·
         go_wp2
         go_meet
         exact ⟨_, _, _, p, rfl, (HG.out _ HBU.out.2).1.mono (by decide) (by decide), hla0, HBU.out.1⟩
        ·
         go_wp2_with (go_at_call 9; refine (ptimes_P ao (some ⟨lr, 0, none⟩) la ca 2 2 p (lineL a) _ (HG.out _ HBU.out.2).1.at' (HU.out.1 _ HBU.out.1) (by omega) (by omega) HF.out.1.2.1 (line_facts HF.out.2).1 HF.out.1.1 (line_facts HF.out.2).2.1).mono ?_; rintro e y1 ⟨⟨o1, l1, c1, rfl, hp1, _, hb1⟩, _⟩)
         go_meet
         have hm : mulP p (lineL a) = mulL p (lineL a) := by unfold mulP; rw [if_neg (by rw [← HF.out.1.2.2.2]; simp [lineL]; omega)]
         have hlen : 0 < (mulP p (lineL a)).length := by rw [hm, mulL_len _ _ (by simp [lineL])]; have := HF.out.1.2.2.2; have h2 : (lineL a).length = 2 := rfl; omega
         exact ⟨_, _, _, _, rfl, GP.mk' hp1 (mulP_lead HF.out.1.1 (line_facts HF.out.2).2.1) ((mulP_lim HF.out.1.2.1 (line_facts HF.out.2).1 HF.out.1.2.2.1).mono (by decide)) (Nat.le_trans (mulP_short HF.out.1.2.2.1 (Nat.le_refl 2)) (by decide)) (by decide), by rw [hp1.hlen]; exact hlen, bnext HBU.out.1 hb1⟩
       case rest => as_aux_lemma =>
        obtain ⟨fo, fl, fc, F, rfl, hgf, hfl, hB2⟩ := hcut
        obtain ⟨V0, hV0⟩ : ∃ V, V = wc := ⟨_, rfl⟩
        subst hV0
        have HV : Hid ((∀ V, Below V0.heap.size V0 V → GP V fo fl fc 100 F) ∧ Below U.heap.size U V0 ∧ Below Z.heap.size Z V0) := ⟨fun V hV => hgf.later hV, hB2, bnext HU.out.2 hB2⟩
        clear hgf hB2
        have fq4 := (HG.out _ HV.out.2.2).2.2.2 4 _ rfl
        have fq5 := (HG.out _ HV.out.2.2).2.2.2 5 _ rfl
        have fq6 := (HG.out _ HV.out.2.2).2.2.2 6 _ rfl
        go_upto_region 15 with fail
        go_cut [8, 9] (fun s8 s9 wx => ∃ r8, s8 = .pointer (some ⟨r8, 0, none⟩) ∧ s9 = .int .i64 0 ∧ RV5 wx r8 (evQ F a) ∧ Below V0.heap.size V0 wx)
        case first => as_aux_lemma =>
         go_wp2_with (go_at_call 10; refine (geval_any fo fl fc 100 F n4 o4 p4 l4 c4 m4 k4 a _ (HV.out.1 _ (Below.refl _ _)) (by decide) (HG.out _ HV.out.2.2).2.1 HF.out.2 (HG.out _ HV.out.2.2).2.2.1).mono ?_; rintro e v1 ⟨n9, o9, l9, c9, p9, m9, k9, rfl, hs9, ho9, hd9, hpt9, hb⟩; have H1 : Hid (RatAt v1 n9 o9 l9 c9 p9 m9 k9 (evQ F a) ∧ Below V0.heap.size V0 v1) := ⟨⟨ho9.int hs9, hd9.row⟩, hb⟩; clear hs9 ho9 hd9 hpt9 hb)
         go_meet
         have h := rv5_made H1.out.1 H1.out.2
         exact ⟨_, rfl, rfl, h.1, h.2.2⟩
        case rest => as_aux_lemma =>
         obtain ⟨r8, rfl, rfl, hR8, hB3⟩ := hcut
         obtain ⟨V1, hV1⟩ : ∃ V, V = wc := ⟨_, rfl⟩
         subst hV1
         obtain ⟨nv, ov, lv, cv, pv, mv, kv, hbv, hrv⟩ := hR8
         have HV1 : Hid ((∀ V, Below V1.heap.size V1 V → Bx V r8 [.bool nv, .slice ov lv cv, .slice pv mv kv]) ∧ (lv = 0 ↔ evQ F a = 0) ∧ Below V0.heap.size V0 V1) := by
          refine ⟨fun V hV => hbv.later hV hbv.lt, ?_, hB3⟩
          rw [hrv.num.lim]
          constructor
          ·
           intro h; exact Rat.num_eq_zero.1 (zero_of_lim h)
          ·
           intro h; rw [h]; rfl
         clear hbv hrv hB3 fq4 fq5 fq6
         go_upto_region 16 with fail
         go_cut [11] (fun s11 wx => ∃ er : Int, s11 = .int .i64 er ∧ ((er = 0 ∧ evQ F a = 0) ∨ (er = 52 ∧ evQ F a ≠ 0)) ∧ Below V1.heap.size V1 wx)
         case first => as_aux_lemma =>
          go_wp2_with (go_at_call 11; refine (gexact_any fo (some ⟨lr, 0, none⟩) fl fc 2 100 F a _ (HV.out.1 _ HV1.out.2.2) (by decide) (HU.out.1 _ (bnext HV.out.2.1 HV1.out.2.2)) hfl HF.out.2).mono ?_; rintro e v2 ⟨o2, l2, c2, er, rfl, her, hb2⟩)
          go_meet
          exact ⟨_, rfl, her, hb2⟩
         case rest => as_aux_lemma =>
          obtain ⟨er, rfl, her, hB4⟩ := hcut
          obtain ⟨V2, hV2⟩ : ∃ V, V = wc := ⟨_, rfl⟩
          subst hV2
          have HB4 : Hid (Below V1.heap.size V1 V2 ∧ Below U.heap.size U V2) := ⟨hB4, bnext HV.out.2.1 (bnext HV1.out.2.2 hB4)⟩
          obtain ⟨zv, hzv⟩ : ∃ zv, ((lv : Int) == 0) = zv := ⟨_, rfl⟩
          have HZV : Hid ((er = 0 ∧ zv = true) ∨ (er = 52 ∧ zv = false)) := by
           rcases her with ⟨h1, h2⟩ | ⟨h1, h2⟩
           ·
            refine Or.inl ⟨h1, ?_⟩
            rw [← hzv]; have := HV1.out.2.1.2 h2; simp; omega
           ·
            refine Or.inr ⟨h1, ?_⟩
            rw [← hzv]; have : lv ≠ 0 := fun h => h2 (HV1.out.2.1.1 h)
            simp; omega
          clear her hB4
          go_upto_region 17 with fail
          have KS : Hid (∀ w', Below V2.heap.size V2 w' → w'.cell? ⟨r8, 0, none⟩ = some (.bool nv) ∧ w'.cell? ⟨r8, 1, none⟩ = some (.slice ov lv cv) ∧ w'.cell? ⟨r8, 2, none⟩ = some (.slice pv mv kv)) := fun w' hb => by
           have h := HV1.out.1 w' (bnext HB4.out.1 hb)
           exact ⟨h.1 0 _ rfl, h.1 1 _ rfl, h.1 2 _ rfl⟩
          go_cut [99] (fun s99 wx => s99 = .bool false ∧ Below V2.heap.size V2 wx)
          case first => as_aux_lemma =>
           rcases HZV.out with ⟨rfl, rfl⟩ | ⟨rfl, rfl⟩
           ·
            refine wp_region_noPanic ?_
            refine wp_region_held_drew (S := fun w' => (w'.cell? ⟨r8, 0, none⟩ = some (.bool nv) ∧ w'.cell? ⟨r8, 1, none⟩ = some (.slice ov lv cv) ∧ w'.cell? ⟨r8, 2, none⟩ = some (.slice pv mv kv))) (by kernel_rfl) (by (try dsimp only); exact KS.out _ (Below.refl _ _).drew) (fun hHeld => ?_)
            refine wpAnyH_take (i := 0) (oi := Oper.mk (some 76) _ _ _ _ _) (v := ?_) rfl (by decide +kernel) (by decide +kernel) (by decide +kernel) (fun _ _ _ h => h) (Or.inl ⟨by rfl, ?_⟩) (by assumption) ?_
            rotate_left
            ·
             (intro w hSw; (try dsimp only at hSw); go_simp <;> (try with_reducible rfl))
            (try simp only [Act.put, List.setIfInBounds_toArray, List.set_cons_zero, List.set_cons_succ])
            refine wpAnyH_ready (rs := [1]) (by decide +kernel) (by simp) ?_
            refine AllReadyH.cons (o := Oper.mk (some 77) _ _ _ _ _) rfl (fun K hK => ?_) AllReadyH.nil
            go_simp
            (go_at_call 12; refine (num4_any _ _).mono ?_; rintro e n1w ⟨rfl, hb⟩; have hn1 : Below V2.heap.size V2 n1w := bnext (Below.refl _ _).drew hb; clear hb)
            (try go_wp2_with fail)
            clear hHeld
            refine hK.out _ _ (by (try dsimp only); exact KS.out _ hn1) (fun hHeld => ?_)
            clear hK K
            (try simp only [Act.put, List.setIfInBounds_toArray, List.set_cons_zero, List.set_cons_succ])
            refine wpAnyH_take (i := 2) (oi := Oper.mk (some 78) _ _ _ _ _) (v := ?_) rfl (by decide +kernel) (by decide +kernel) (by decide +kernel) (fun _ _ _ h => h) (Or.inl ⟨by rfl, ?_⟩) (by assumption) ?_
            rotate_left
            ·
             (intro w hSw; (try dsimp only at hSw); go_simp <;> (try with_reducible rfl))
            (try simp only [Act.put, List.setIfInBounds_toArray, List.set_cons_zero, List.set_cons_succ])
            refine wpAnyH_take (i := 3) (oi := Oper.mk (some 79) _ _ _ _ _) (v := ?_) rfl (by decide +kernel) (by decide +kernel) (by decide +kernel) (fun _ _ _ h => h) (Or.inl ⟨by rfl, ?_⟩) (by assumption) ?_
            rotate_left
            ·
             (intro w hSw; (try dsimp only at hSw); go_simp <;> (try with_reducible rfl))
            (try simp only [Act.put, List.setIfInBounds_toArray, List.set_cons_zero, List.set_cons_succ])
            refine wpAnyH_take (i := 4) (oi := Oper.mk (some 80) _ _ _ _ _) (v := ?_) rfl (by decide +kernel) (by decide +kernel) (by decide +kernel) (fun _ _ _ h => h) (Or.inl ⟨by rfl, ?_⟩) (by assumption) ?_
            rotate_left
            ·
             (intro w hSw; (try dsimp only at hSw); go_simp <;> (try with_reducible rfl))
            (try simp only [Act.put, List.setIfInBounds_toArray, List.set_cons_zero, List.set_cons_succ])
            refine wpAnyH_ready (rs := [5]) (by decide +kernel) (by simp) ?_
            refine AllReadyH.cons (o := Oper.mk (some 81) _ _ _ _ _) rfl (fun K hK => ?_) AllReadyH.nil
            go_simp
            (go_at_call 12; refine (num4_any _ _).mono ?_; rintro e n2w ⟨rfl, hb⟩; have hn2 : Below V2.heap.size V2 n2w := bnext hn1 hb; clear hb)
            (try go_wp2_with fail)
            clear hHeld
            refine hK.out _ _ (by (try dsimp only); exact KS.out _ hn2) (fun hHeld => ?_)
            clear hK K
            (try simp only [Act.put, List.setIfInBounds_toArray, List.set_cons_zero, List.set_cons_succ])
            refine wpAnyH_take (i := 6) (oi := Oper.mk (some 82) _ _ _ _ _) (v := ?_) rfl (by decide +kernel) (by decide +kernel) (by decide +kernel) (fun _ _ _ h => h) (Or.inl ⟨by rfl, ?_⟩) (by assumption) ?_
            rotate_left
            ·
             (intro w hSw; (try dsimp only at hSw); go_simp <;> (try with_reducible rfl))
            (try simp only [Act.put, List.setIfInBounds_toArray, List.set_cons_zero, List.set_cons_succ])
            refine wpAnyH_take (i := 7) (oi := Oper.mk (some 83) _ _ _ _ _) (v := ?_) rfl (by decide +kernel) (by decide +kernel) (by decide +kernel) (fun _ _ _ h => h) (Or.inl ⟨by rfl, ?_⟩) (by assumption) ?_
            rotate_left
            ·
             (intro w hSw; (try dsimp only at hSw); go_simp <;> (try with_reducible rfl))
            (try simp only [Act.put, List.setIfInBounds_toArray, List.set_cons_zero, List.set_cons_succ])
            refine wpAnyH_take (i := 8) (oi := Oper.mk (some 84) _ _ _ _ _) (v := undef) rfl (by decide +kernel) (by decide +kernel) (by decide +kernel) (fun _ _ _ h => h) (Or.inr ⟨by rfl, rfl⟩) (by assumption) ?_
            (try simp only [Act.put, List.setIfInBounds_toArray, List.set_cons_zero, List.set_cons_succ])
            refine wpAnyH_take (i := 9) (oi := Oper.mk (some 85) _ _ _ _ _) (v := undef) rfl (by decide +kernel) (by decide +kernel) (by decide +kernel) (fun _ _ _ h => h) (Or.inr ⟨by rfl, rfl⟩) (by assumption) ?_
            (try simp only [Act.put, List.setIfInBounds_toArray, List.set_cons_zero, List.set_cons_succ])
            refine wpAnyH_take (i := 10) (oi := Oper.mk (some 86) _ _ _ _ _) (v := undef) rfl (by decide +kernel) (by decide +kernel) (by decide +kernel) (fun _ _ _ h => h) (Or.inr ⟨by rfl, rfl⟩) (by assumption) ?_
            (try simp only [Act.put, List.setIfInBounds_toArray, List.set_cons_zero, List.set_cons_succ])
            refine wpAnyH_take (i := 11) (oi := Oper.mk (some 87) _ _ _ _ _) (v := ?_) rfl (by decide +kernel) (by decide +kernel) (by decide +kernel) (fun _ _ _ h => h) (Or.inl ⟨by rfl, ?_⟩) (by assumption) ?_
            rotate_left
            ·
             (intro w hSw; (try dsimp only at hSw); go_simp <;> (try with_reducible rfl))
            (try simp only [Act.put, List.setIfInBounds_toArray, List.set_cons_zero, List.set_cons_succ])
            refine wpAnyH_take (i := 12) (oi := Oper.mk (some 88) _ _ _ _ _) (v := ?_) rfl (by decide +kernel) (by decide +kernel) (by decide +kernel) (fun _ _ _ h => h) (Or.inl ⟨by rfl, ?_⟩) (by assumption) ?_
            rotate_left
            ·
             (intro w hSw; (try dsimp only at hSw); go_simp <;> (try with_reducible rfl))
            (try simp only [Act.put, List.setIfInBounds_toArray, List.set_cons_zero, List.set_cons_succ])
            refine wpAnyH_take (i := 13) (oi := Oper.mk (some 89) _ _ _ _ _) (v := ?_) rfl (by decide +kernel) (by decide +kernel) (by decide +kernel) (fun _ _ _ h => h) (Or.inl ⟨by rfl, ?_⟩) (by assumption) ?_
            rotate_left
            ·
             (intro w hSw; (try dsimp only at hSw); go_simp <;> (try with_reducible rfl))
            (try simp only [Act.put, List.setIfInBounds_toArray, List.set_cons_zero, List.set_cons_succ])
            refine wpAnyH_take (i := 14) (oi := Oper.mk (some 90) _ _ _ _ _) (v := ?_) rfl (by decide +kernel) (by decide +kernel) (by decide +kernel) (fun _ _ _ h => h) (Or.inl ⟨by rfl, ?_⟩) (by assumption) ?_
            rotate_left
            ·
             (intro w hSw; (try dsimp only at hSw); go_simp <;> (try with_reducible rfl))
            (try simp only [Act.put, List.setIfInBounds_toArray, List.set_cons_zero, List.set_cons_succ])
            refine wpAnyH_take (i := 15) (oi := Oper.mk (some 91) _ _ _ _ _) (v := ?_) rfl (by decide +kernel) (by decide +kernel) (by decide +kernel) (fun _ _ _ h => h) (Or.inl ⟨by rfl, ?_⟩) (by assumption) ?_
            rotate_left
            ·
             (intro w hSw; (try dsimp only at hSw); go_simp <;> (try with_reducible rfl))
            (try simp only [Act.put, List.setIfInBounds_toArray, List.set_cons_zero, List.set_cons_succ])
            refine wpAnyH_take (i := 16) (oi := Oper.mk (some 92) _ _ _ _ _) (v := ?_) rfl (by decide +kernel) (by decide +kernel) (by decide +kernel) (fun _ _ _ h => h) (Or.inl ⟨by rfl, ?_⟩) (by assumption) ?_
            rotate_left
            ·
             (intro w hSw; (try dsimp only at hSw); go_simp <;> (try with_reducible rfl))
            (try simp only [Act.put, List.setIfInBounds_toArray, List.set_cons_zero, List.set_cons_succ])
            refine wpAnyH_take (i := 17) (oi := Oper.mk (some 93) _ _ _ _ _) (v := ?_) rfl (by decide +kernel) (by decide +kernel) (by decide +kernel) (fun _ _ _ h => h) (Or.inl ⟨by rfl, ?_⟩) (by assumption) ?_
            rotate_left
            ·
             (intro w hSw; (try dsimp only at hSw); go_simp <;> (try with_reducible rfl))
            (try simp only [Act.put, List.setIfInBounds_toArray, List.set_cons_zero, List.set_cons_succ])
            refine wpAnyH_take (i := 18) (oi := Oper.mk (some 94) _ _ _ _ _) (v := ?_) rfl (by decide +kernel) (by decide +kernel) (by decide +kernel) (fun _ _ _ h => h) (Or.inl ⟨by rfl, ?_⟩) (by assumption) ?_
            rotate_left
            ·
             (intro w hSw; (try dsimp only at hSw); go_simp <;> (try with_reducible rfl))
            (try simp only [Act.put, List.setIfInBounds_toArray, List.set_cons_zero, List.set_cons_succ])
            refine wpAnyH_take (i := 19) (oi := Oper.mk (some 95) _ _ _ _ _) (v := ?_) rfl (by decide +kernel) (by decide +kernel) (by decide +kernel) (fun _ _ _ h => h) (Or.inl ⟨by rfl, ?_⟩) (by assumption) ?_
            rotate_left
            ·
             (intro w hSw; (try dsimp only at hSw); go_simp <;> (try with_reducible rfl))
            (try simp only [Act.put, List.setIfInBounds_toArray, List.set_cons_zero, List.set_cons_succ])
            refine wpAnyH_ready (rs := [20]) (by decide +kernel) (by simp) ?_
            refine AllReadyH.cons (o := Oper.mk (some 96) _ _ _ _ _) rfl (fun K hK => ?_) AllReadyH.nil
            go_simp
            (go_at_call 12; refine (num4_any _ _).mono ?_; rintro e n3w ⟨rfl, hb⟩; have hn3 : Below V2.heap.size V2 n3w := bnext hn2 hb; clear hb)
            (try go_wp2_with fail)
            clear hHeld
            refine hK.out _ _ (by (try dsimp only); exact KS.out _ hn3) (fun hHeld => ?_)
            clear hK K
            (try simp only [Act.put, List.setIfInBounds_toArray, List.set_cons_zero, List.set_cons_succ])
            refine wpAnyH_take (i := 21) (oi := Oper.mk (some 97) _ _ _ _ _) (v := ?_) rfl (by decide +kernel) (by decide +kernel) (by decide +kernel) (fun _ _ _ h => h) (Or.inl ⟨by rfl, ?_⟩) (by assumption) ?_
            rotate_left
            ·
             (intro w hSw; (try dsimp only at hSw); go_simp <;> (try with_reducible rfl))
            (try simp only [Act.put, List.setIfInBounds_toArray, List.set_cons_zero, List.set_cons_succ])
            refine wpAnyH_take (i := 22) (oi := Oper.mk (some 98) _ _ _ _ _) (v := ?_) rfl (by decide +kernel) (by decide +kernel) (by decide +kernel) (fun _ _ _ h => h) (Or.inl ⟨by rfl, ?_⟩) (by assumption) ?_
            rotate_left
            ·
             (intro w hSw; (try dsimp only at hSw); go_simp <;> (try with_reducible rfl))
            (try simp only [Act.put, List.setIfInBounds_toArray, List.set_cons_zero, List.set_cons_succ])
            refine wpAnyH_take (i := 23) (oi := Oper.mk (some 99) _ _ _ _ _) (v := ?_) rfl (by decide +kernel) (by decide +kernel) (by decide +kernel) (fun _ _ _ h => h) (Or.inl ⟨by rfl, ?_⟩) (by assumption) ?_
            rotate_left
            ·
             (intro w hSw; (try dsimp only at hSw); go_simp <;> (try with_reducible rfl))
            (try simp only [Act.put, List.setIfInBounds_toArray, List.set_cons_zero, List.set_cons_succ])
            refine wpAnyH_done (by decide +kernel) ?_ _
            refine NoPanic.normal ?_
            go_wp2
            go_meet
            exact ⟨rfl, hn3⟩
           ·
            refine wp_region_noPanic ?_
            refine wp_region_held_drew (S := fun w' => (w'.cell? ⟨r8, 0, none⟩ = some (.bool nv) ∧ w'.cell? ⟨r8, 1, none⟩ = some (.slice ov lv cv) ∧ w'.cell? ⟨r8, 2, none⟩ = some (.slice pv mv kv))) (by kernel_rfl) (by (try dsimp only); exact KS.out _ (Below.refl _ _).drew) (fun hHeld => ?_)
            refine wpAnyH_take (i := 0) (oi := Oper.mk (some 76) _ _ _ _ _) (v := ?_) rfl (by decide +kernel) (by decide +kernel) (by decide +kernel) (fun _ _ _ h => h) (Or.inl ⟨by rfl, ?_⟩) (by assumption) ?_
            rotate_left
            ·
             (intro w hSw; (try dsimp only at hSw); go_simp <;> (try with_reducible rfl))
            (try simp only [Act.put, List.setIfInBounds_toArray, List.set_cons_zero, List.set_cons_succ])
            refine wpAnyH_ready (rs := [1]) (by decide +kernel) (by simp) ?_
            refine AllReadyH.cons (o := Oper.mk (some 77) _ _ _ _ _) rfl (fun K hK => ?_) AllReadyH.nil
            go_simp
            (go_at_call 12; refine (num4_any _ _).mono ?_; rintro e n1w ⟨rfl, hb⟩; have hn1 : Below V2.heap.size V2 n1w := bnext (Below.refl _ _).drew hb; clear hb)
            (try go_wp2_with fail)
            clear hHeld
            refine hK.out _ _ (by (try dsimp only); exact KS.out _ hn1) (fun hHeld => ?_)
            clear hK K
            (try simp only [Act.put, List.setIfInBounds_toArray, List.set_cons_zero, List.set_cons_succ])
            refine wpAnyH_take (i := 2) (oi := Oper.mk (some 78) _ _ _ _ _) (v := ?_) rfl (by decide +kernel) (by decide +kernel) (by decide +kernel) (fun _ _ _ h => h) (Or.inl ⟨by rfl, ?_⟩) (by assumption) ?_
            rotate_left
            ·
             (intro w hSw; (try dsimp only at hSw); go_simp <;> (try with_reducible rfl))
            (try simp only [Act.put, List.setIfInBounds_toArray, List.set_cons_zero, List.set_cons_succ])
            refine wpAnyH_take (i := 3) (oi := Oper.mk (some 79) _ _ _ _ _) (v := ?_) rfl (by decide +kernel) (by decide +kernel) (by decide +kernel) (fun _ _ _ h => h) (Or.inl ⟨by rfl, ?_⟩) (by assumption) ?_
            rotate_left
            ·
             (intro w hSw; (try dsimp only at hSw); go_simp <;> (try with_reducible rfl))
            (try simp only [Act.put, List.setIfInBounds_toArray, List.set_cons_zero, List.set_cons_succ])
            refine wpAnyH_take (i := 4) (oi := Oper.mk (some 80) _ _ _ _ _) (v := ?_) rfl (by decide +kernel) (by decide +kernel) (by decide +kernel) (fun _ _ _ h => h) (Or.inl ⟨by rfl, ?_⟩) (by assumption) ?_
            rotate_left
            ·
             (intro w hSw; (try dsimp only at hSw); go_simp <;> (try with_reducible rfl))
            (try simp only [Act.put, List.setIfInBounds_toArray, List.set_cons_zero, List.set_cons_succ])
            refine wpAnyH_ready (rs := [5]) (by decide +kernel) (by simp) ?_
            refine AllReadyH.cons (o := Oper.mk (some 81) _ _ _ _ _) rfl (fun K hK => ?_) AllReadyH.nil
            go_simp
            (go_at_call 12; refine (num4_any _ _).mono ?_; rintro e n2w ⟨rfl, hb⟩; have hn2 : Below V2.heap.size V2 n2w := bnext hn1 hb; clear hb)
            (try go_wp2_with fail)
            clear hHeld
            refine hK.out _ _ (by (try dsimp only); exact KS.out _ hn2) (fun hHeld => ?_)
            clear hK K
            (try simp only [Act.put, List.setIfInBounds_toArray, List.set_cons_zero, List.set_cons_succ])
            refine wpAnyH_take (i := 6) (oi := Oper.mk (some 82) _ _ _ _ _) (v := ?_) rfl (by decide +kernel) (by decide +kernel) (by decide +kernel) (fun _ _ _ h => h) (Or.inl ⟨by rfl, ?_⟩) (by assumption) ?_
            rotate_left
            ·
             (intro w hSw; (try dsimp only at hSw); go_simp <;> (try with_reducible rfl))
            (try simp only [Act.put, List.setIfInBounds_toArray, List.set_cons_zero, List.set_cons_succ])
            refine wpAnyH_take (i := 7) (oi := Oper.mk (some 83) _ _ _ _ _) (v := ?_) rfl (by decide +kernel) (by decide +kernel) (by decide +kernel) (fun _ _ _ h => h) (Or.inl ⟨by rfl, ?_⟩) (by assumption) ?_
            rotate_left
            ·
             (intro w hSw; (try dsimp only at hSw); go_simp <;> (try with_reducible rfl))
            (try simp only [Act.put, List.setIfInBounds_toArray, List.set_cons_zero, List.set_cons_succ])
            refine wpAnyH_take (i := 8) (oi := Oper.mk (some 84) _ _ _ _ _) (v := ?_) rfl (by decide +kernel) (by decide +kernel) (by decide +kernel) (fun _ _ _ h => h) (Or.inl ⟨by rfl, ?_⟩) (by assumption) ?_
            rotate_left
            ·
             (intro w hSw; (try dsimp only at hSw); go_simp <;> (try with_reducible rfl))
            (try simp only [Act.put, List.setIfInBounds_toArray, List.set_cons_zero, List.set_cons_succ])
            refine wpAnyH_ready (rs := [9]) (by decide +kernel) (by simp) ?_
            refine AllReadyH.cons (o := Oper.mk (some 85) _ _ _ _ _) rfl (fun K hK => ?_) AllReadyH.nil
            go_simp
            (go_at_call 12; refine (num4_any _ _).mono ?_; rintro e n3w ⟨rfl, hb⟩; have hn3 : Below V2.heap.size V2 n3w := bnext hn2 hb; clear hb)
            (try go_wp2_with fail)
            clear hHeld
            refine hK.out _ _ (by (try dsimp only); exact KS.out _ hn3) (fun hHeld => ?_)
            clear hK K
            (try simp only [Act.put, List.setIfInBounds_toArray, List.set_cons_zero, List.set_cons_succ])
            refine wpAnyH_take (i := 10) (oi := Oper.mk (some 86) _ _ _ _ _) (v := ?_) rfl (by decide +kernel) (by decide +kernel) (by decide +kernel) (fun _ _ _ h => h) (Or.inl ⟨by rfl, ?_⟩) (by assumption) ?_
            rotate_left
            ·
             (intro w hSw; (try dsimp only at hSw); go_simp <;> (try with_reducible rfl))
            (try simp only [Act.put, List.setIfInBounds_toArray, List.set_cons_zero, List.set_cons_succ])
            refine wpAnyH_take (i := 11) (oi := Oper.mk (some 87) _ _ _ _ _) (v := ?_) rfl (by decide +kernel) (by decide +kernel) (by decide +kernel) (fun _ _ _ h => h) (Or.inl ⟨by rfl, ?_⟩) (by assumption) ?_
            rotate_left
            ·
             (intro w hSw; (try dsimp only at hSw); go_simp <;> (try with_reducible rfl))
            (try simp only [Act.put, List.setIfInBounds_toArray, List.set_cons_zero, List.set_cons_succ])
            refine wpAnyH_take (i := 12) (oi := Oper.mk (some 88) _ _ _ _ _) (v := ?_) rfl (by decide +kernel) (by decide +kernel) (by decide +kernel) (fun _ _ _ h => h) (Or.inl ⟨by rfl, ?_⟩) (by assumption) ?_
            rotate_left
            ·
             (intro w hSw; (try dsimp only at hSw); go_simp <;> (try with_reducible rfl))
            (try simp only [Act.put, List.setIfInBounds_toArray, List.set_cons_zero, List.set_cons_succ])
            refine wpAnyH_take (i := 13) (oi := Oper.mk (some 89) _ _ _ _ _) (v := ?_) rfl (by decide +kernel) (by decide +kernel) (by decide +kernel) (fun _ _ _ h => h) (Or.inl ⟨by rfl, ?_⟩) (by assumption) ?_
            rotate_left
            ·
             (intro w hSw; (try dsimp only at hSw); go_simp <;> (try with_reducible rfl))
            (try simp only [Act.put, List.setIfInBounds_toArray, List.set_cons_zero, List.set_cons_succ])
            refine wpAnyH_take (i := 14) (oi := Oper.mk (some 90) _ _ _ _ _) (v := ?_) rfl (by decide +kernel) (by decide +kernel) (by decide +kernel) (fun _ _ _ h => h) (Or.inl ⟨by rfl, ?_⟩) (by assumption) ?_
            rotate_left
            ·
             (intro w hSw; (try dsimp only at hSw); go_simp <;> (try with_reducible rfl))
            (try simp only [Act.put, List.setIfInBounds_toArray, List.set_cons_zero, List.set_cons_succ])
            refine wpAnyH_take (i := 15) (oi := Oper.mk (some 91) _ _ _ _ _) (v := ?_) rfl (by decide +kernel) (by decide +kernel) (by decide +kernel) (fun _ _ _ h => h) (Or.inl ⟨by rfl, ?_⟩) (by assumption) ?_
            rotate_left
            ·
             (intro w hSw; (try dsimp only at hSw); go_simp <;> (try with_reducible rfl))
            (try simp only [Act.put, List.setIfInBounds_toArray, List.set_cons_zero, List.set_cons_succ])
            refine wpAnyH_take (i := 16) (oi := Oper.mk (some 92) _ _ _ _ _) (v := ?_) rfl (by decide +kernel) (by decide +kernel) (by decide +kernel) (fun _ _ _ h => h) (Or.inl ⟨by rfl, ?_⟩) (by assumption) ?_
            rotate_left
            ·
             (intro w hSw; (try dsimp only at hSw); go_simp <;> (try with_reducible rfl))
            (try simp only [Act.put, List.setIfInBounds_toArray, List.set_cons_zero, List.set_cons_succ])
            refine wpAnyH_take (i := 17) (oi := Oper.mk (some 93) _ _ _ _ _) (v := ?_) rfl (by decide +kernel) (by decide +kernel) (by decide +kernel) (fun _ _ _ h => h) (Or.inl ⟨by rfl, ?_⟩) (by assumption) ?_
            rotate_left
            ·
             (intro w hSw; (try dsimp only at hSw); go_simp <;> (try with_reducible rfl))
            (try simp only [Act.put, List.setIfInBounds_toArray, List.set_cons_zero, List.set_cons_succ])
            refine wpAnyH_take (i := 18) (oi := Oper.mk (some 94) _ _ _ _ _) (v := ?_) rfl (by decide +kernel) (by decide +kernel) (by decide +kernel) (fun _ _ _ h => h) (Or.inl ⟨by rfl, ?_⟩) (by assumption) ?_
            rotate_left
            ·
             (intro w hSw; (try dsimp only at hSw); go_simp <;> (try with_reducible rfl))
            (try simp only [Act.put, List.setIfInBounds_toArray, List.set_cons_zero, List.set_cons_succ])
            refine wpAnyH_take (i := 19) (oi := Oper.mk (some 95) _ _ _ _ _) (v := ?_) rfl (by decide +kernel) (by decide +kernel) (by decide +kernel) (fun _ _ _ h => h) (Or.inl ⟨by rfl, ?_⟩) (by assumption) ?_
            rotate_left
            ·
             (intro w hSw; (try dsimp only at hSw); go_simp <;> (try with_reducible rfl))
            (try simp only [Act.put, List.setIfInBounds_toArray, List.set_cons_zero, List.set_cons_succ])
            refine wpAnyH_ready (rs := [20]) (by decide +kernel) (by simp) ?_
            refine AllReadyH.cons (o := Oper.mk (some 96) _ _ _ _ _) rfl (fun K hK => ?_) AllReadyH.nil
            go_simp
            (go_at_call 12; refine (num4_any _ _).mono ?_; rintro e n4w ⟨rfl, hb⟩; have hn4 : Below V2.heap.size V2 n4w := bnext hn3 hb; clear hb)
            (try go_wp2_with fail)
            clear hHeld
            refine hK.out _ _ (by (try dsimp only); exact KS.out _ hn4) (fun hHeld => ?_)
            clear hK K
            (try simp only [Act.put, List.setIfInBounds_toArray, List.set_cons_zero, List.set_cons_succ])
            refine wpAnyH_take (i := 21) (oi := Oper.mk (some 97) _ _ _ _ _) (v := ?_) rfl (by decide +kernel) (by decide +kernel) (by decide +kernel) (fun _ _ _ h => h) (Or.inl ⟨by rfl, ?_⟩) (by assumption) ?_
            rotate_left
            ·
             (intro w hSw; (try dsimp only at hSw); go_simp <;> (try with_reducible rfl))
            (try simp only [Act.put, List.setIfInBounds_toArray, List.set_cons_zero, List.set_cons_succ])
            refine wpAnyH_take (i := 22) (oi := Oper.mk (some 98) _ _ _ _ _) (v := ?_) rfl (by decide +kernel) (by decide +kernel) (by decide +kernel) (fun _ _ _ h => h) (Or.inl ⟨by rfl, ?_⟩) (by assumption) ?_
            rotate_left
            ·
             (intro w hSw; (try dsimp only at hSw); go_simp <;> (try with_reducible rfl))
            (try simp only [Act.put, List.setIfInBounds_toArray, List.set_cons_zero, List.set_cons_succ])
            refine wpAnyH_take (i := 23) (oi := Oper.mk (some 99) _ _ _ _ _) (v := ?_) rfl (by decide +kernel) (by decide +kernel) (by decide +kernel) (fun _ _ _ h => h) (Or.inl ⟨by rfl, ?_⟩) (by assumption) ?_
            rotate_left
            ·
             (intro w hSw; (try dsimp only at hSw); go_simp <;> (try with_reducible rfl))
            (try simp only [Act.put, List.setIfInBounds_toArray, List.set_cons_zero, List.set_cons_succ])
            refine wpAnyH_done (by decide +kernel) ?_ _
            refine NoPanic.normal ?_
            go_wp2
            go_meet
            exact ⟨rfl, hn4⟩
          case rest => as_aux_lemma =>
           obtain ⟨rfl, hB5⟩ := hcut
           go_wp2
           go_roundw
           case rel => exact ⟨j + 1, by omega, by go_num, bnext HB4.out.2 hB5⟩
           case measure => simp [intOf]; omega
   ·
    have g2 : ¬ (k : Int) < 15 := by omega
    go_wp2_with (go_at_call 13; refine (wakes4_any _).mono ?_; rintro e w1 ⟨rfl, hb1⟩)
    go_ret
    exact ⟨rfl, bnext hbel hb1⟩
  ·
   have g1 : ¬ (k : Int) < (len : Int) := by omega
   go_wp2_with (go_at_call 13; refine (wakes4_any _).mono ?_; rintro e w1 ⟨rfl, hb1⟩)
   go_ret
   exact ⟨rfl, bnext hbel hb1⟩
end Go.Proofs.YtpbkonafojemiaaGreatDoor
