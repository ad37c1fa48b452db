/-
  Walks: what rat refuses; differences, quotients; copies; answers that are written over. (gen/rbad.py)
-/
import Derived.Test.YtiiefpnkpfliiaaGreatDoorRU
import Derived.Test.YtiiefpnkpfliiaaGreatDoorRVb
import Derived.Test.YtiiefpnkpfliiaaGreatDoorRF
import Derived.Test.YtiiefpnkpfliiaaGreatDoorRI
import Derived.Test.YtiiefpnkpfliiaaGreatDoorHF
namespace Go.Proofs.YtiiefpnkpfliiaaGreatDoor
open Go.RowKit
set_option linter.unusedVariables false
set_option linter.unusedSimpArgs false
set_option maxRecDepth 100000 in
set_option maxHeartbeats 4000000 in
theorem rcheck_bad (na : Bool) (ao po : Option Addr) (la ca lp cp : Nat) (x d : List Int) (w : World) (hx : RowAt w .u64 ao la ca x) (wx : Wd 18446744073709551616 x) (hd : RowAt w .u64 po lp cp d) (wd : Wd 18446744073709551616 d) (hl : la ≤ 16777216) (hl' : lp ≤ 16777216) (hT0 : TabAt 0 Lib.deBruijn64tab w) (hm : mayR na x d = false) :
    Calls Tryz.prog 10 #[.agg #[.bool na, .slice ao la ca, .slice po lp cp]] w fun e w' => e = .returned (.int .i64 20) ∧ Below w.heap.size w w' := by
  obtain ⟨W, hW⟩ := ROne1.mk' w na ao po la ca lp cp
  have hsz := hW.size
  have HX : Hid (RowAt W .u64 ao la ca x ∧ RowAt W .u64 po lp cp d) := ⟨hx.later hW.below, hd.later hW.below⟩
  have HTb : Hid (TabAt 0 Lib.deBruijn64tab W) := tab_later hT0 hW.below
  have HLd : Hid (lp = d.length) := hd.hlen
  cases h1 : mayB na x
  · have HC1 : Hid ((if mayB na x then 0 else 10 : Int) = 10) := by show _ = _; rw [h1]; rfl
    clear hx hd hT0 hm h1
    go_enter Tryz.func10, Tryz.ntmps10
    go_wp2_with (go_at_call 51; rw [← hW.eq]; refine (check_at na ao la ca x _ HX.out.1 (by omega) 10 HC1.out).mono ?_; rintro e w1 ⟨rfl, hb1⟩; obtain ⟨p0, p1, p2⟩ := hW.a.later hb1 (by omega))
    go_ret
    exact ⟨rfl, bnext hW.below hb1⟩
  · have HC1 : Hid ((if mayB na x then 0 else 10 : Int) = 0) := by show _ = _; rw [h1]; rfl
    cases h2 : mayB false d
    · have HC2 : Hid ((if mayB false d then 0 else 10 : Int) = 10) := by show _ = _; rw [h2]; rfl
      clear hx hd hT0 hm h1 h2
      go_enter Tryz.func10, Tryz.ntmps10
      go_wp2_with (first
        | (go_at_call 51; have _t := hb1; refine (check_at false po lp cp d _ (HX.out.2.later hb1) (by omega) 10 HC2.out).mono ?_; rintro e w2 ⟨rfl, hb2⟩; clear p0 p1 p2; obtain ⟨p0, p1, p2⟩ := hW.a.later (bnext hb1 hb2) (by omega))
        | (go_at_call 51; rw [← hW.eq]; refine (check_at na ao la ca x _ HX.out.1 (by omega) 0 HC1.out).mono ?_; rintro e w1 ⟨rfl, hb1⟩; obtain ⟨p0, p1, p2⟩ := hW.a.later hb1 (by omega)))
      go_ret
      exact ⟨rfl, bnext hW.below (bnext hb1 hb2)⟩
    · have HC2 : Hid ((if mayB false d then 0 else 10 : Int) = 0) := by show _ = _; rw [h2]; rfl
      by_cases h3 : lp = 0
      · have h3' : ((lp : Int) == 0) = true := by simp; omega
        clear hx hd hT0 hm h1 h2 h3
        go_enter Tryz.func10, Tryz.ntmps10
        go_wp2_with (first
          | (go_at_call 51; have _t := hb1; refine (check_at false po lp cp d _ (HX.out.2.later hb1) (by omega) 0 HC2.out).mono ?_; rintro e w2 ⟨rfl, hb2⟩; clear p0 p1 p2; obtain ⟨p0, p1, p2⟩ := hW.a.later (bnext hb1 hb2) (by omega))
          | (go_at_call 51; rw [← hW.eq]; refine (check_at na ao la ca x _ HX.out.1 (by omega) 0 HC1.out).mono ?_; rintro e w1 ⟨rfl, hb1⟩; obtain ⟨p0, p1, p2⟩ := hW.a.later hb1 (by omega)))
        go_ret
        exact ⟨rfl, bnext hW.below (bnext hb1 hb2)⟩
      · have h3' : ((lp : Int) == 0) = false := by simp; omega
        obtain ⟨v, hv, ev⟩ := int_of_may HX.out.1 wx h1
        obtain ⟨u, hu, eu⟩ := int_of_may HX.out.2 wd h2
        have HG : Hid (decide (Nat.gcd v.natAbs u.natAbs = 1) = false) := by
          show _ = _
          rw [← hm]; unfold mayR
          rw [h1, h2, decide_eq_true (show 0 < d.length by have := HLd.out; omega), Bool.true_and, Bool.true_and, Bool.true_and, ev, eu, mag_val, mag_val, Int.natAbs_natCast, Int.natAbs_natCast]
        have HR : Hid (RowAt W .u64 ao la ca (mag v.natAbs) ∧ RowAt W .u64 po lp cp (mag u.natAbs) ∧ 0 < u.natAbs) := ⟨hv.row, hu.row, mag_len_pos.1 (by rw [← hu.row.hlen]; omega)⟩
        clear hx hd hT0 hm h1 h2 hv hu ev eu
        go_enter Tryz.func10, Tryz.ntmps10
        go_wp2_with (first
          | (go_at_call 51; have _t := hb1; refine (check_at false po lp cp d _ (HX.out.2.later hb1) (by omega) 0 HC2.out).mono ?_; rintro e w2 ⟨rfl, hb2⟩; clear p0 p1 p2; obtain ⟨p0, p1, p2⟩ := hW.a.later (bnext hb1 hb2) (by omega))
          | (go_at_call 51; rw [← hW.eq]; refine (check_at na ao la ca x _ HX.out.1 (by omega) 0 HC1.out).mono ?_; rintro e w1 ⟨rfl, hb1⟩; obtain ⟨p0, p1, p2⟩ := hW.a.later hb1 (by omega))
          | (go_at_call 52; refine (apart_any ao po la ca lp cp _ _ _ (HR.out.1.later (bnext hb1 hb2)) (HR.out.2.1.later (bnext hb1 hb2)) HR.out.2.2 (by omega) (by omega) (tab_later HTb.out (bnext hb1 hb2)) false HG.out).mono ?_; rintro e w3 ⟨rfl, hb3⟩))
        go_ret
        exact ⟨rfl, bnext hW.below (bnext (bnext hb1 hb2) hb3)⟩
set_option maxRecDepth 100000 in
set_option maxHeartbeats 4000000 in
theorem checkBoth_bad (na nb : Bool) (ao po bo qo : Option Addr) (la ca lp cp lb cb lq cq : Nat) (x d y f : List Int) (w : World) (hx : RowAt w .u64 ao la ca x) (wx : Wd 18446744073709551616 x) (hd : RowAt w .u64 po lp cp d) (wd : Wd 18446744073709551616 d) (hy : RowAt w .u64 bo lb cb y) (wy : Wd 18446744073709551616 y) (hf : RowAt w .u64 qo lq cq f) (wf : Wd 18446744073709551616 f) (hla : la ≤ 16777216) (hlp : lp ≤ 16777216) (hlb : lb ≤ 16777216) (hlq : lq ≤ 16777216) (hT0 : TabAt 0 Lib.deBruijn64tab w) (hm : (mayR na x d && mayR nb y f) = false) :
    Calls Tryz.prog 73 #[.agg #[.bool na, .slice ao la ca, .slice po lp cp], .agg #[.bool nb, .slice bo lb cb, .slice qo lq cq]] w fun e w' => e = .returned (.int .i64 20) ∧ Below w.heap.size w w' := by
  obtain ⟨W, hW⟩ := RTwo2.mk' w na nb ao po bo qo la ca lp cp lb cb lq cq
  have hsz := hW.size
  have HX : Hid (RowAt W .u64 ao la ca x ∧ RowAt W .u64 po lp cp d ∧ RowAt W .u64 bo lb cb y ∧ RowAt W .u64 qo lq cq f ∧ TabAt 0 Lib.deBruijn64tab W) := ⟨hx.later hW.below, hd.later hW.below, hy.later hW.below, hf.later hW.below, tab_later hT0 hW.below⟩
  have HWd : Hid (Wd 18446744073709551616 x ∧ Wd 18446744073709551616 d ∧ Wd 18446744073709551616 y ∧ Wd 18446744073709551616 f) := ⟨wx, wd, wy, wf⟩
  clear hx hd hy hf wx wd wy wf hT0
  cases h1 : mayR na x d
  · have H1 : Hid (mayR na x d = false) := h1
    clear hm h1
    go_enter Tryz.func73, Tryz.ntmps73
    go_wp2_with (go_at_call 10; rw [← hW.eq]; refine (rcheck_bad na ao po la ca lp cp x d _ HX.out.1 HWd.out.1 HX.out.2.1 HWd.out.2.1 hla hlp HX.out.2.2.2.2 H1.out).mono ?_; rintro e w1 ⟨rfl, hb1⟩)
    go_ret
    exact ⟨rfl, bnext hW.below hb1⟩
  · have H2 : Hid (mayR nb y f = false) := by rw [h1] at hm; exact hm
    obtain ⟨a, hA, _, _⟩ := rat_of_may HX.out.1 HWd.out.1 HX.out.2.1 HWd.out.2.1 h1
    have HA : Hid (RatAt W na ao la ca po lp cp a) := hA
    clear hm h1 hA
    go_enter Tryz.func73, Tryz.ntmps73
    go_wp2_with (first
      | (go_at_call 10; have _t := hb1; refine (rcheck_bad nb bo qo lb cb lq cq y f _ (HX.out.2.2.1.later hb1) HWd.out.2.2.1 (HX.out.2.2.2.1.later hb1) HWd.out.2.2.2 hlb hlq (tab_later HX.out.2.2.2.2 hb1) H2.out).mono ?_; rintro e w2 ⟨rfl, hb2⟩)
      | (go_at_call 10; rw [← hW.eq]; refine (rcheck_good na ao po la ca lp cp a _ HA.out (by omega) (by omega) HX.out.2.2.2.2).mono ?_; rintro e w1 ⟨rfl, hb1⟩; obtain ⟨p0, p1, p2⟩ := hW.b.later hb1 (by omega)))
    go_ret
    exact ⟨rfl, bnext hW.below (bnext hb1 hb2)⟩
set_option maxRecDepth 100000 in
set_option maxHeartbeats 4000000 in
theorem radd_bad (na nb : Bool) (ao po bo qo : Option Addr) (la ca lp cp lb cb lq cq : Nat) (x d y f : List Int) (w : World) (hx : RowAt w .u64 ao la ca x) (wx : Wd 18446744073709551616 x) (hd : RowAt w .u64 po lp cp d) (wd : Wd 18446744073709551616 d) (hy : RowAt w .u64 bo lb cb y) (wy : Wd 18446744073709551616 y) (hf : RowAt w .u64 qo lq cq f) (wf : Wd 18446744073709551616 f) (hla : la ≤ 16777216) (hlp : lp ≤ 16777216) (hlb : lb ≤ 16777216) (hlq : lq ≤ 16777216) (hT0 : TabAt 0 Lib.deBruijn64tab w) (hm : (mayR na x d && mayR nb y f) = false) :
    Calls Tryz.prog 79 #[.agg #[.bool na, .slice ao la ca, .slice po lp cp], .agg #[.bool nb, .slice bo lb cb, .slice qo lq cq]] w fun e w' => e = .returned (.tuple #[.agg #[.bool false, .slice none 0 0, .slice none 0 0], .int .i64 20]) ∧ Below w.heap.size w w' := by
  obtain ⟨W, hT⟩ := RTwo3.mk' w na nb ao po bo qo la ca lp cp lb cb lq cq
  have hsz := hT.size
  have hcon := checkBoth_bad na nb ao po bo qo la ca lp cp lb cb lq cq x d y f W (hx.later hT.below) wx (hd.later hT.below) wd (hy.later hT.below) wy (hf.later hT.below) wf hla hlp hlb hlq (tab_later hT0 hT.below) hm
  clear hx hd hy hf wx wd wy wf hT0 hm
  go_enter Tryz.func79, Tryz.ntmps79
  go_wp2_with (go_at_call 73; rw [← hT.eq]; refine hcon.mono ?_; rintro e w1 ⟨rfl, hb1⟩; obtain ⟨g5, g2, g3, g4⟩ := hT.r.later hb1 (by omega))
  exact bodyPost_ret (v := .tuple #[.agg #[.bool false, .slice none 0 0, .slice none 0 0], .int .i64 20]) (by simp [results, Tryz.results79, go_sem, g2, g3, g4]) rfl
    ⟨rfl, below_store3 (bnext hT.below hb1) (by omega) _ _ _⟩
end Go.Proofs.YtiiefpnkpfliiaaGreatDoor
