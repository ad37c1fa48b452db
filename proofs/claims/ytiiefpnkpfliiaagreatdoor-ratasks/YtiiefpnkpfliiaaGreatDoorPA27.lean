/-
  Walks: what rat's asking calls refuse; Whole, Dyadic, Neg, Abs; the page's. (gen/rasks0.py)
-/
import Derived.Test.YtiiefpnkpfliiaaGreatDoorPA23
import Derived.Test.YtiiefpnkpfliiaaGreatDoorPA25
import Derived.Test.YtiiefpnkpfliiaaGreatDoorPA26
namespace Go.Proofs.YtiiefpnkpfliiaaGreatDoor
open Go.RowKit
set_option linter.unusedVariables false
set_option linter.unusedSimpArgs false
set_option maxRecDepth 100000 in
set_option maxHeartbeats 4000000 in
theorem rdyadic_bad (na : Bool) (ao po : Option Addr) (la ca lp cp : Nat) (x d : List Int) (w : World) (hx : RowAt w .u64 ao la ca x) (wx : Wd 18446744073709551616 x) (hd : RowAt w .u64 po lp cp d) (wd : Wd 18446744073709551616 d) (hl : la ≤ 16777216) (hl' : lp ≤ 16777216) (hT0 : TabAt 0 Lib.deBruijn64tab w) (hm : mayR na x d = false) :
    Calls Tryz.prog 12 #[.agg #[.bool na, .slice ao la ca, .slice po lp cp]] w fun e w' => e = .returned (.bool false) ∧ Below w.heap.size w w' := by
  obtain ⟨W, hT⟩ := ROne1.mk' w na ao po la ca lp cp
  have hsz := hT.size
  have hcon := rcheck_bad na ao po la ca lp cp x d W (hx.later hT.below) wx (hd.later hT.below) wd hl hl' (tab_later hT0 hT.below) hm
  clear hx hd wx wd hT0 hm
  go_enter Tryz.func12, Tryz.ntmps12
  go_wp2_with (go_at_call 10; rw [← hT.eq]; refine hcon.mono ?_; rintro e w1 ⟨rfl, hb1⟩)
  go_ret
  exact ⟨rfl, bnext hT.below hb1⟩
set_option maxRecDepth 100000 in
set_option maxHeartbeats 4000000 in
theorem rsign_bad (na : Bool) (ao po : Option Addr) (la ca lp cp : Nat) (x d : List Int) (w : World) (hx : RowAt w .u64 ao la ca x) (wx : Wd 18446744073709551616 x) (hd : RowAt w .u64 po lp cp d) (wd : Wd 18446744073709551616 d) (hl : la ≤ 16777216) (hl' : lp ≤ 16777216) (hT0 : TabAt 0 Lib.deBruijn64tab w) (hm : mayR na x d = false) :
    Calls Tryz.prog 13 #[.agg #[.bool na, .slice ao la ca, .slice po lp cp]] w fun e w' => e = .returned (.int .i64 0) ∧ Below w.heap.size w w' := by
  obtain ⟨W, hT⟩ := ROne1.mk' w na ao po la ca lp cp
  have hsz := hT.size
  have hcon := rcheck_bad na ao po la ca lp cp x d W (hx.later hT.below) wx (hd.later hT.below) wd hl hl' (tab_later hT0 hT.below) hm
  clear hx hd wx wd hT0 hm
  go_enter Tryz.func13, Tryz.ntmps13
  go_wp2_with (go_at_call 10; rw [← hT.eq]; refine hcon.mono ?_; rintro e w1 ⟨rfl, hb1⟩)
  go_ret
  exact ⟨rfl, bnext hT.below hb1⟩
set_option maxRecDepth 100000 in
set_option maxHeartbeats 4000000 in
theorem rtext_bad (na : Bool) (ao po : Option Addr) (la ca lp cp : Nat) (x d : List Int) (w : World) (hx : RowAt w .u64 ao la ca x) (wx : Wd 18446744073709551616 x) (hd : RowAt w .u64 po lp cp d) (wd : Wd 18446744073709551616 d) (hl : la ≤ 16777216) (hl' : lp ≤ 16777216) (hT0 : TabAt 0 Lib.deBruijn64tab w) (hm : mayR na x d = false) :
    Calls Tryz.prog 18 #[.agg #[.bool na, .slice ao la ca, .slice po lp cp]] w fun e w' => e = .returned (.string ⟨#[]⟩) ∧ Below w.heap.size w w' := by
  obtain ⟨W, hT⟩ := ROne1.mk' w na ao po la ca lp cp
  have hsz := hT.size
  have hcon := rcheck_bad na ao po la ca lp cp x d W (hx.later hT.below) wx (hd.later hT.below) wd hl hl' (tab_later hT0 hT.below) hm
  clear hx hd wx wd hT0 hm
  go_enter Tryz.func18, Tryz.ntmps18
  go_wp2_with (go_at_call 10; rw [← hT.eq]; refine hcon.mono ?_; rintro e w1 ⟨rfl, hb1⟩)
  go_ret
  exact ⟨rfl, bnext hT.below hb1⟩
set_option maxRecDepth 100000 in
set_option maxHeartbeats 4000000 in
theorem rneg_bad (na : Bool) (ao po : Option Addr) (la ca lp cp : Nat) (x d : List Int) (w : World) (hx : RowAt w .u64 ao la ca x) (wx : Wd 18446744073709551616 x) (hd : RowAt w .u64 po lp cp d) (wd : Wd 18446744073709551616 d) (hl : la ≤ 16777216) (hl' : lp ≤ 16777216) (hT0 : TabAt 0 Lib.deBruijn64tab w) (hm : mayR na x d = false) :
    Calls Tryz.prog 15 #[.agg #[.bool na, .slice ao la ca, .slice po lp cp]] w fun e w' => e = .returned (.agg #[.bool false, .slice none 0 0, .slice none 0 0]) ∧ Below w.heap.size w w' := by
  obtain ⟨W, hT⟩ := ROne2.mk' w na ao po la ca lp cp
  have hsz := hT.size
  have hcon := rcheck_bad na ao po la ca lp cp x d W (hx.later hT.below) wx (hd.later hT.below) wd hl hl' (tab_later hT0 hT.below) hm
  clear hx hd wx wd hT0 hm
  go_enter Tryz.func15, Tryz.ntmps15
  go_wp2_with (go_at_call 10; rw [← hT.eq]; refine hcon.mono ?_; rintro e w1 ⟨rfl, hb1⟩; obtain ⟨g5, g2, g3, g4⟩ := hT.r.later hb1 (by omega))
  exact bodyPost_ret (v := .agg #[.bool false, .slice none 0 0, .slice none 0 0]) (by simp [results, Tryz.results15, go_sem, g2, g3, g4]) rfl
    ⟨rfl, below_store3 (bnext hT.below hb1) (by omega) _ _ _⟩
set_option maxRecDepth 100000 in
set_option maxHeartbeats 4000000 in
theorem rabs_bad (na : Bool) (ao po : Option Addr) (la ca lp cp : Nat) (x d : List Int) (w : World) (hx : RowAt w .u64 ao la ca x) (wx : Wd 18446744073709551616 x) (hd : RowAt w .u64 po lp cp d) (wd : Wd 18446744073709551616 d) (hl : la ≤ 16777216) (hl' : lp ≤ 16777216) (hT0 : TabAt 0 Lib.deBruijn64tab w) (hm : mayR na x d = false) :
    Calls Tryz.prog 16 #[.agg #[.bool na, .slice ao la ca, .slice po lp cp]] w fun e w' => e = .returned (.agg #[.bool false, .slice none 0 0, .slice none 0 0]) ∧ Below w.heap.size w w' := by
  obtain ⟨W, hT⟩ := ROne2.mk' w na ao po la ca lp cp
  have hsz := hT.size
  have hcon := rcheck_bad na ao po la ca lp cp x d W (hx.later hT.below) wx (hd.later hT.below) wd hl hl' (tab_later hT0 hT.below) hm
  clear hx hd wx wd hT0 hm
  go_enter Tryz.func16, Tryz.ntmps16
  go_wp2_with (go_at_call 10; rw [← hT.eq]; refine hcon.mono ?_; rintro e w1 ⟨rfl, hb1⟩; obtain ⟨g5, g2, g3, g4⟩ := hT.r.later hb1 (by omega))
  exact bodyPost_ret (v := .agg #[.bool false, .slice none 0 0, .slice none 0 0]) (by simp [results, Tryz.results16, go_sem, g2, g3, g4]) rfl
    ⟨rfl, below_store3 (bnext hT.below hb1) (by omega) _ _ _⟩
set_option maxRecDepth 100000 in
set_option maxHeartbeats 4000000 in
theorem rfloor_bad (na : Bool) (ao po : Option Addr) (la ca lp cp : Nat) (x d : List Int) (w : World) (hx : RowAt w .u64 ao la ca x) (wx : Wd 18446744073709551616 x) (hd : RowAt w .u64 po lp cp d) (wd : Wd 18446744073709551616 d) (hl : la ≤ 16777216) (hl' : lp ≤ 16777216) (hT0 : TabAt 0 Lib.deBruijn64tab w) (hm : mayR na x d = false) :
    Calls Tryz.prog 17 #[.agg #[.bool na, .slice ao la ca, .slice po lp cp]] w fun e w' => e = .returned (.agg #[.bool false, .slice none 0 0]) ∧ Below w.heap.size w w' := by
  obtain ⟨W, hT⟩ := RI2.mk' w na ao po la ca lp cp
  have hsz := hT.size
  have hcon := rcheck_bad na ao po la ca lp cp x d W (hx.later hT.below) wx (hd.later hT.below) wd hl hl' (tab_later hT0 hT.below) hm
  clear hx hd wx wd hT0 hm
  go_enter Tryz.func17, Tryz.ntmps17
  go_wp2_with (go_at_call 10; rw [← hT.eq]; refine hcon.mono ?_; rintro e w1 ⟨rfl, hb1⟩; obtain ⟨g5, g3, g4⟩ := hT.r.later hb1 (by omega))
  exact bodyPost_ret (v := .agg #[.bool false, .slice none 0 0]) (by simp [results, Tryz.results17, go_sem, g3, g4]) rfl
    ⟨rfl, below_store (bnext hT.below hb1) (by omega) _ _⟩
set_option maxRecDepth 100000 in
set_option maxHeartbeats 4000000 in
theorem rwhole_bad (na : Bool) (ao po : Option Addr) (la ca lp cp : Nat) (x d : List Int) (w : World) (hx : RowAt w .u64 ao la ca x) (wx : Wd 18446744073709551616 x) (hd : RowAt w .u64 po lp cp d) (wd : Wd 18446744073709551616 d) (hl : la ≤ 16777216) (hl' : lp ≤ 16777216) (hT0 : TabAt 0 Lib.deBruijn64tab w) (hm : mayR na x d = false) :
    Calls Tryz.prog 8 #[.agg #[.bool na, .slice ao la ca, .slice po lp cp]] w fun e w' => e = .returned (.tuple #[.agg #[.bool false, .slice none 0 0], .bool false]) ∧ Below w.heap.size w w' := by
  obtain ⟨W, hT⟩ := RI2.mk' w na ao po la ca lp cp
  have hsz := hT.size
  have hcon := rcheck_bad na ao po la ca lp cp x d W (hx.later hT.below) wx (hd.later hT.below) wd hl hl' (tab_later hT0 hT.below) hm
  clear hx hd wx wd hT0 hm
  go_enter Tryz.func8, Tryz.ntmps8
  go_wp2_with (go_at_call 10; rw [← hT.eq]; refine hcon.mono ?_; rintro e w1 ⟨rfl, hb1⟩; obtain ⟨g5, g3, g4⟩ := hT.r.later hb1 (by omega))
  exact bodyPost_ret (v := .tuple #[.agg #[.bool false, .slice none 0 0], .bool false]) (by simp [results, Tryz.results8, go_sem, g3, g4]) rfl
    ⟨rfl, below_store (bnext hT.below hb1) (by omega) _ _⟩
set_option maxRecDepth 100000 in
set_option maxHeartbeats 4000000 in
theorem rcmp_bad (na nb : Bool) (ao po bo qo : Option Addr) (la ca lp cp lb cb lq cq : Nat) (x d y f : List Int) (w : World) (hx : RowAt w .u64 ao la ca x) (wx : Wd 18446744073709551616 x) (hd : RowAt w .u64 po lp cp d) (wd : Wd 18446744073709551616 d) (hy : RowAt w .u64 bo lb cb y) (wy : Wd 18446744073709551616 y) (hf : RowAt w .u64 qo lq cq f) (wf : Wd 18446744073709551616 f) (hla : la ≤ 16777216) (hlp : lp ≤ 16777216) (hlb : lb ≤ 16777216) (hlq : lq ≤ 16777216) (hT0 : TabAt 0 Lib.deBruijn64tab w) (hm : (mayR na x d && mayR nb y f) = false) :
    Calls Tryz.prog 30 #[.agg #[.bool na, .slice ao la ca, .slice po lp cp], .agg #[.bool nb, .slice bo lb cb, .slice qo lq cq]] w fun e w' => e = .returned (.int .i64 0) ∧ Below w.heap.size w w' := by
  obtain ⟨W, hT⟩ := RTwo2.mk' w na nb ao po bo qo la ca lp cp lb cb lq cq
  have hsz := hT.size
  have hcon := checkBoth_bad na nb ao po bo qo la ca lp cp lb cb lq cq x d y f W (hx.later hT.below) wx (hd.later hT.below) wd (hy.later hT.below) wy (hf.later hT.below) wf hla hlp hlb hlq (tab_later hT0 hT.below) hm
  clear hx hd hy hf wx wd wy wf hT0 hm
  go_enter Tryz.func30, Tryz.ntmps30
  go_wp2_with (go_at_call 73; rw [← hT.eq]; refine hcon.mono ?_; rintro e w1 ⟨rfl, hb1⟩)
  go_ret
  exact ⟨rfl, bnext hT.below hb1⟩
set_option maxRecDepth 100000 in
set_option maxHeartbeats 4000000 in
theorem rmid_bad (na nb : Bool) (ao po bo qo : Option Addr) (la ca lp cp lb cb lq cq : Nat) (x d y f : List Int) (w : World) (hx : RowAt w .u64 ao la ca x) (wx : Wd 18446744073709551616 x) (hd : RowAt w .u64 po lp cp d) (wd : Wd 18446744073709551616 d) (hy : RowAt w .u64 bo lb cb y) (wy : Wd 18446744073709551616 y) (hf : RowAt w .u64 qo lq cq f) (wf : Wd 18446744073709551616 f) (hla : la ≤ 16777216) (hlp : lp ≤ 16777216) (hlb : lb ≤ 16777216) (hlq : lq ≤ 16777216) (hT0 : TabAt 0 Lib.deBruijn64tab w) (hm : (mayR na x d && mayR nb y f) = false) :
    Calls Tryz.prog 31 #[.agg #[.bool na, .slice ao la ca, .slice po lp cp], .agg #[.bool nb, .slice bo lb cb, .slice qo lq cq]] w fun e w' => e = .returned (.agg #[.bool false, .slice none 0 0, .slice none 0 0]) ∧ Below w.heap.size w w' := by
  obtain ⟨W, hT⟩ := RTwo3.mk' w na nb ao po bo qo la ca lp cp lb cb lq cq
  have hsz := hT.size
  have hcon := checkBoth_bad na nb ao po bo qo la ca lp cp lb cb lq cq x d y f W (hx.later hT.below) wx (hd.later hT.below) wd (hy.later hT.below) wy (hf.later hT.below) wf hla hlp hlb hlq (tab_later hT0 hT.below) hm
  clear hx hd hy hf wx wd wy wf hT0 hm
  go_enter Tryz.func31, Tryz.ntmps31
  go_wp2_with (go_at_call 73; rw [← hT.eq]; refine hcon.mono ?_; rintro e w1 ⟨rfl, hb1⟩; obtain ⟨g5, g2, g3, g4⟩ := hT.r.later hb1 (by omega))
  exact bodyPost_ret (v := .agg #[.bool false, .slice none 0 0, .slice none 0 0]) (by simp [results, Tryz.results31, go_sem, g2, g3, g4]) rfl
    ⟨rfl, below_store3 (bnext hT.below hb1) (by omega) _ _ _⟩
set_option maxRecDepth 100000 in
set_option maxHeartbeats 4000000 in
theorem whole_no (na : Bool) (ao po : Option Addr) (la ca lp cp : Nat) (a : Rat) (w : World) (hx : RatAt w na ao la ca po lp cp a) (hl : la ≤ 1073741824) (hl' : lp ≤ 1073741824) (hT0 : TabAt 0 Lib.deBruijn64tab w) (hd : a.den ≠ 1) :
    Calls Tryz.prog 8 #[.agg #[.bool na, .slice ao la ca, .slice po lp cp]] w fun e w' => e = .returned (.tuple #[.agg #[.bool false, .slice none 0 0], .bool false]) ∧ Below w.heap.size w w' := by
  obtain ⟨W, hT⟩ := RI2.mk' w na ao po la ca lp cp
  have hsz := hT.size
  have HX : Hid (RatAt W na ao la ca po lp cp a ∧ TabAt 0 Lib.deBruijn64tab W) := ⟨hx.later hT.below, tab_later hT0 hT.below⟩
  clear hx hT0
  go_enter Tryz.func8, Tryz.ntmps8
  have HD : Hid (decide (a.den = 1) = false) := decide_eq_false hd
  clear hd
  go_wp2_with (first
    | (go_at_call 49; refine (isOne_any po lp cp a.den _ (HX.out.1.den.later hb1) false HD.out).mono ?_; rintro e w2 ⟨rfl, hw2⟩; replace hw2 := hw2.symm; subst hw2; have hb2 := hb1; obtain ⟨g5, g3, g4⟩ := hT.r.later hb2 (by omega))
    | (go_at_call 10; rw [← hT.eq]; refine (rcheck_good na ao po la ca lp cp a _ HX.out.1 (by omega) (by omega) HX.out.2).mono ?_; rintro e w1 ⟨rfl, hb1⟩; obtain ⟨p0, p1, p2⟩ := hT.a.later hb1 (by omega)))
  exact bodyPost_ret (v := .tuple #[.agg #[.bool false, .slice none 0 0], .bool false]) (by simp [results, Tryz.results8, go_sem, g3, g4]) rfl
    ⟨rfl, below_store (bnext hT.below hb2) (by omega) _ _⟩
set_option maxRecDepth 100000 in
set_option maxHeartbeats 4000000 in
theorem whole_yes (na : Bool) (ao po : Option Addr) (la ca lp cp : Nat) (a : Rat) (w : World) (hx : RatAt w na ao la ca po lp cp a) (hl : la ≤ 1073741824) (hl' : lp ≤ 1073741824) (hT0 : TabAt 0 Lib.deBruijn64tab w) (hd : a.den = 1) :
    Calls Tryz.prog 8 #[.agg #[.bool na, .slice ao la ca, .slice po lp cp]] w fun e w' => ∃ n o l c, e = .returned (.tuple #[.agg #[.bool n, .slice o l c], .bool true]) ∧ IntAt w' n o l c a.num ∧ Below w.heap.size w w' := by
  obtain ⟨W, hT⟩ := RI2.mk' w na ao po la ca lp cp
  have hsz := hT.size
  have HX : Hid (RatAt W na ao la ca po lp cp a ∧ TabAt 0 Lib.deBruijn64tab W) := ⟨hx.later hT.below, tab_later hT0 hT.below⟩
  clear hx hT0
  go_enter Tryz.func8, Tryz.ntmps8
  have HD : Hid (decide (a.den = 1) = true) := decide_eq_true hd
  clear hd
  go_wp2_with (first
    | (go_at_call 49; refine (isOne_any po lp cp a.den _ (HX.out.1.den.later hb1) true HD.out).mono ?_; rintro e w2 ⟨rfl, hw2⟩; replace hw2 := hw2.symm; subst hw2; have hb2 := hb1; obtain ⟨g5, g3, g4⟩ := hT.r.later hb2 (by omega))
    | (go_at_call 50; refine (rclone_any na ao la ca a.num _ (HX.out.1.num.later hb2) (by omega)).mono ?_; rintro e w3 ⟨n1, o1, l1, c1, rfl, hs1, ho1, hb3'⟩; have H3 : Hid (IntAt w3 n1 o1 l1 c1 a.num ∧ Below W.heap.size W w3) := ⟨ho1.int hs1, bnext hb2 hb3'⟩; clear hs1 ho1 hb3' g5 g3 g4; obtain ⟨g5, g3, g4⟩ := hT.r.later H3.out.2 (by omega))
    | (go_at_call 10; rw [← hT.eq]; refine (rcheck_good na ao po la ca lp cp a _ HX.out.1 (by omega) (by omega) HX.out.2).mono ?_; rintro e w1 ⟨rfl, hb1⟩; obtain ⟨p0, p1, p2⟩ := hT.a.later hb1 (by omega)))
  exact bodyPost_ret (v := .tuple #[.agg #[.bool n1, .slice o1 l1 c1], .bool true]) (by simp [results, Tryz.results8, go_sem, g3, g4]) rfl
    ⟨_, _, _, _, rfl, int_kept H3.out.1 ⟨g5, g3, g4⟩, below_store (bnext hT.below H3.out.2) (by omega) _ _⟩
set_option maxRecDepth 100000 in
set_option maxHeartbeats 4000000 in
theorem rdyadic_yes (na : Bool) (ao po : Option Addr) (la ca lp cp : Nat) (a : Rat) (w : World) (hx : RatAt w na ao la ca po lp cp a) (hl : la ≤ 1073741824) (hl' : lp ≤ 1073741824) (hT0 : TabAt 0 Lib.deBruijn64tab w) (k : Nat) (hk : a.den = 2 ^ k) :
    Calls Tryz.prog 12 #[.agg #[.bool na, .slice ao la ca, .slice po lp cp]] w fun e w' => e = .returned (.bool true) ∧ Below w.heap.size w w' := by
  obtain ⟨W, hT⟩ := ROne1.mk' w na ao po la ca lp cp
  have hsz := hT.size
  have HX : Hid (RatAt W na ao la ca po lp cp a ∧ TabAt 0 Lib.deBruijn64tab W) := ⟨hx.later hT.below, tab_later hT0 hT.below⟩
  clear hx hT0
  go_enter Tryz.func12, Tryz.ntmps12
  have HK : Hid _ := hk
  clear hk
  go_wp2_with (first
    | (go_at_call 54; refine (isPow_yes po lp cp a.den k _ (HX.out.1.den.later hb1) HK.out (by omega) (tab_later HX.out.2 hb1)).mono ?_; rintro e w2 ⟨rfl, hb2⟩)
    | (go_at_call 10; rw [← hT.eq]; refine (rcheck_good na ao po la ca lp cp a _ HX.out.1 (by omega) (by omega) HX.out.2).mono ?_; rintro e w1 ⟨rfl, hb1⟩; obtain ⟨p0, p1, p2⟩ := hT.a.later hb1 (by omega)))
  go_ret
  exact ⟨rfl, bnext hT.below (bnext hb1 hb2)⟩
set_option maxRecDepth 100000 in
set_option maxHeartbeats 4000000 in
theorem rdyadic_no (na : Bool) (ao po : Option Addr) (la ca lp cp : Nat) (a : Rat) (w : World) (hx : RatAt w na ao la ca po lp cp a) (hl : la ≤ 1073741824) (hl' : lp ≤ 1073741824) (hT0 : TabAt 0 Lib.deBruijn64tab w) (hk : ∀ k, a.den ≠ 2 ^ k) :
    Calls Tryz.prog 12 #[.agg #[.bool na, .slice ao la ca, .slice po lp cp]] w fun e w' => e = .returned (.bool false) ∧ Below w.heap.size w w' := by
  obtain ⟨W, hT⟩ := ROne1.mk' w na ao po la ca lp cp
  have hsz := hT.size
  have HX : Hid (RatAt W na ao la ca po lp cp a ∧ TabAt 0 Lib.deBruijn64tab W) := ⟨hx.later hT.below, tab_later hT0 hT.below⟩
  clear hx hT0
  go_enter Tryz.func12, Tryz.ntmps12
  have HK : Hid _ := hk
  clear hk
  go_wp2_with (first
    | (go_at_call 54; refine (isPow_no po lp cp a.den _ (HX.out.1.den.later hb1) a.den_pos HK.out (by omega) (tab_later HX.out.2 hb1)).mono ?_; rintro e w2 ⟨rfl, hb2⟩)
    | (go_at_call 10; rw [← hT.eq]; refine (rcheck_good na ao po la ca lp cp a _ HX.out.1 (by omega) (by omega) HX.out.2).mono ?_; rintro e w1 ⟨rfl, hb1⟩; obtain ⟨p0, p1, p2⟩ := hT.a.later hb1 (by omega)))
  go_ret
  exact ⟨rfl, bnext hT.below (bnext hb1 hb2)⟩
set_option maxRecDepth 100000 in
set_option maxHeartbeats 4000000 in
theorem rneg2_any (na : Bool) (ao po : Option Addr) (la ca lp cp : Nat) (a : Rat) (w : World) (hx : RatAt w na ao la ca po lp cp a) (hl : la ≤ 1073741824) (hl' : lp ≤ 1073741824) (hT0 : TabAt 0 Lib.deBruijn64tab w) :
    Calls Tryz.prog 15 #[.agg #[.bool na, .slice ao la ca, .slice po lp cp]] w fun e w' => NewRat w w' e (-a) := by
  obtain ⟨W, hT⟩ := ROne2.mk' w na ao po la ca lp cp
  have hsz := hT.size
  have HX : Hid (RatAt W na ao la ca po lp cp a ∧ TabAt 0 Lib.deBruijn64tab W) := ⟨hx.later hT.below, tab_later hT0 hT.below⟩
  clear hx hT0
  go_enter Tryz.func15, Tryz.ntmps15
  go_wp2_with (first
    | (go_at_call 56; refine (opposite_rat na ao po la ca lp cp a _ (HX.out.1.later hb1) (by omega) (by omega)).mono ?_; rintro e w2 ⟨n1, o1, l1, c1, q1, m1, k1, rfl, hs, ho, hp, hpt, hb2⟩; have H2 : Hid (n1 = sgB (-a).num ∧ Own W.heap.size w2 .u64 59 o1 l1 c1 (mag (-a).num.natAbs) ∧ Own W.heap.size w2 .u64 59 q1 m1 k1 (mag (-a).den) ∧ Parted o1 q1 ∧ Below W.heap.size W w2) := ⟨hs, ho.mono hb1.size, hp.mono hb1.size, hpt, bnext hb1 hb2⟩; clear hs ho hp hpt hb2 p0 p1 p2; obtain ⟨g5, g2, g3, g4⟩ := hT.r.later H2.out.2.2.2.2 (by omega))
    | (go_at_call 10; rw [← hT.eq]; refine (rcheck_good na ao po la ca lp cp a _ HX.out.1 (by omega) (by omega) HX.out.2).mono ?_; rintro e w1 ⟨rfl, hb1⟩; obtain ⟨p0, p1, p2⟩ := hT.a.later hb1 (by omega)))
  exact bodyPost_ret (v := .agg #[.bool n1, .slice o1 l1 c1, .slice q1 m1 k1]) (by simp [results, Tryz.results15, go_sem, g2, g3, g4]) rfl
    ⟨_, _, _, _, _, _, _, rfl, H2.out.1, (H2.out.2.1.store3 (by omega) _ _ _).mono (by omega), (H2.out.2.2.1.store3 (by omega) _ _ _).mono (by omega), H2.out.2.2.2.1, below_store3 (bnext hT.below H2.out.2.2.2.2) (by omega) _ _ _⟩
/-- without its sign -/
def absR (a : Rat) : Rat := ⟨(a.num.natAbs : Int), a.den, a.den_nz, by rw [Int.natAbs_natCast]; exact a.reduced⟩
theorem absR_num (a : Rat) : (absR a).num = (a.num.natAbs : Int) := rfl
set_option maxRecDepth 100000 in
set_option maxHeartbeats 4000000 in
theorem qsign_any (na : Bool) (ao po : Option Addr) (la ca lp cp : Nat) (a : Rat) (w : World) (hx : RatAt w na ao la ca po lp cp a) (hl : la ≤ 1073741824) (c : Int) (hc : cmpI a.num 0 = c) :
    Calls Tryz.prog 21 #[.agg #[.bool na, .slice ao la ca, .slice po lp cp]] w fun e w' => e = .returned (.int .i64 c) ∧ Below w.heap.size w w' := by
  obtain ⟨W, hT⟩ := ROne1.mk' w na ao po la ca lp cp
  have hsz := hT.size
  have HX : Hid (RatAt W na ao la ca po lp cp a ∧ cmpI a.num 0 = c) := ⟨hx.later hT.below, hc⟩
  obtain ⟨p0, p1, p2⟩ := hT.a
  clear hx hc
  go_enter Tryz.func21, Tryz.ntmps21
  go_wp2_with (go_at_call 65; rw [← hT.eq]; refine (rsign_any na ao la ca a.num _ HX.out.1.num (by omega) c HX.out.2).mono ?_; rintro e w1 ⟨rfl, hb1⟩)
  go_ret
  exact ⟨rfl, bnext hT.below hb1⟩
set_option maxRecDepth 100000 in
set_option maxHeartbeats 4000000 in
theorem qmid_any (na nb : Bool) (ao po bo qo : Option Addr) (la ca lp cp lb cb lq cq : Nat) (a b : Rat) (w : World) (hx : RatAt w na ao la ca po lp cp a) (hy : RatAt w nb bo lb cb qo lq cq b) (ha : Sz a 200) (hb : Sz b 200) :
    Calls Tryz.prog 29 #[.agg #[.bool na, .slice ao la ca, .slice po lp cp], .agg #[.bool nb, .slice bo lb cb, .slice qo lq cq]] w fun e w' => SomeR w w' e ((a + b) * half2) := by
  obtain ⟨W, hT⟩ := RTwo3.mk' w na nb ao po bo qo la ca lp cp lb cb lq cq
  have hsz := hT.size
  have HX : Hid (RatAt W na ao la ca po lp cp a ∧ RatAt W nb bo lb cb qo lq cq b) := ⟨hx.later hT.below, hy.later hT.below⟩
  have HS : Hid (Sz a 1000 ∧ Sz b 1000 ∧ Sz (a + b) 1000) := ⟨ha.mono (by decide), hb.mono (by decide), (ha.add hb).mono (by decide)⟩
  obtain ⟨p0, p1, p2⟩ := hT.a
  obtain ⟨q0, q1, q2⟩ := hT.b
  clear hx hy ha hb
  go_enter Tryz.func29, Tryz.ntmps29
  go_wp2_with (first
    | (go_at_call 72; rw [← hT.eq]; refine (qplus_any na nb ao po bo qo la ca lp cp lb cb lq cq a b _ HX.out.1 HX.out.2 HS.out.1 HS.out.2.1).mono ?_; rintro e w2 ⟨n2, o2, l2, c2, o3, l3, c3, rfl, hr, hb2⟩; have H2 : Hid (RatAt w2 n2 o2 l2 c2 o3 l3 c3 (a + b) ∧ Below W.heap.size W w2) := ⟨hr, hb2⟩; clear hr hb2 p0 p1 p2 q0 q1 q2)
    | (go_at_call 46; refine (rfrom_any 1 _ (by decide) (by decide)).mono ?_; rintro e w3 ⟨n4, o4, l4, c4, rfl, hs, ho, hb3⟩; have H3 : Hid (RatAt w3 n2 o2 l2 c2 o3 l3 c3 (a + b) ∧ IntAt w3 n4 o4 l4 c4 1 ∧ Below W.heap.size W w3) := ⟨H2.out.1.later hb3, ho.int hs, bnext H2.out.2 hb3⟩; clear hs ho hb3)
    | (go_at_call 63; refine (nof_any 2 _ (by decide)).mono ?_; rintro e w4 ⟨o5, l5, c5, rfl, ho, hb4⟩; have H4 : Hid (RatAt w4 n2 o2 l2 c2 o3 l3 c3 (a + b) ∧ RatAt w4 n4 o4 l4 c4 o5 l5 c5 half2 ∧ Below W.heap.size W w4) := ⟨H3.out.1.later hb4, ⟨H3.out.2.1.later hb4, ho.row⟩, bnext H3.out.2.2 hb4⟩; clear ho hb4)
    | (go_at_call 43; refine (qtimes_any n2 n4 o2 o3 o4 o5 l2 c2 l3 c3 l4 c4 l5 c5 (a + b) half2 _ H4.out.1 H4.out.2.1 HS.out.2.2 (sz_half2.mono (by decide))).mono ?_; rintro e w5 ⟨n6, o6, l6, c6, p6, m6, k6, rfl, hr, hb5⟩; have HA : Hid (RatAt w5 n6 o6 l6 c6 p6 m6 k6 ((a + b) * half2) ∧ Below W.heap.size W w5) := ⟨hr, bnext H4.out.2.2 hb5⟩; clear hr hb5; obtain ⟨g5, g2, g3, g4⟩ := hT.r.later HA.out.2 (by omega)))
  exact bodyPost_ret (v := .agg #[.bool n6, .slice o6 l6 c6, .slice p6 m6 k6]) (by simp [results, Tryz.results29, go_sem, g2, g3, g4]) rfl
    ⟨_, _, _, _, _, _, _, rfl, rat_kept HA.out.1 ⟨g2, g3, g4⟩, below_store3 (bnext hT.below HA.out.2) (by omega) _ _ _⟩
set_option maxRecDepth 100000 in
set_option maxHeartbeats 4000000 in
theorem qcmp_any (na nb : Bool) (ao po bo qo : Option Addr) (la ca lp cp lb cb lq cq : Nat) (a b : Rat) (w : World) (hx : RatAt w na ao la ca po lp cp a) (hy : RatAt w nb bo lb cb qo lq cq b) (ha : Sz a 1000) (hb : Sz b 1000) (c : Int) (hc : cmpQ a b = c) :
    Calls Tryz.prog 28 #[.agg #[.bool na, .slice ao la ca, .slice po lp cp], .agg #[.bool nb, .slice bo lb cb, .slice qo lq cq]] w fun e w' => e = .returned (.int .i64 c) ∧ Below w.heap.size w w' := by
  obtain ⟨W, hT⟩ := RTwo2.mk' w na nb ao po bo qo la ca lp cp lb cb lq cq
  have hsz := hT.size
  have HX : Hid (RatAt W na ao la ca po lp cp a ∧ RatAt W nb bo lb cb qo lq cq b ∧ Below w.heap.size w W) := ⟨hx.later hT.below, hy.later hT.below, hT.below⟩
  have hla : la ≤ 1000 := (hx.len ha).1
  have hlp : lp ≤ 1000 := (hx.len ha).2
  have hlb : lb ≤ 1000 := (hy.len hb).1
  have hlq : lq ≤ 1000 := (hy.len hb).2
  have KW : Hid (∀ w' : World, Below W.heap.size W w' → w'.cell? ⟨w.heap.size, 0, none⟩ = some (.bool na) ∧ w'.cell? ⟨w.heap.size, 1, none⟩ = some (.slice ao la ca) ∧ w'.cell? ⟨w.heap.size, 2, none⟩ = some (.slice po lp cp) ∧ w'.cell? ⟨w.heap.size + 1, 0, none⟩ = some (.bool nb) ∧ w'.cell? ⟨w.heap.size + 1, 1, none⟩ = some (.slice bo lb cb) ∧ w'.cell? ⟨w.heap.size + 1, 2, none⟩ = some (.slice qo lq cq)) := fun w' h => ⟨(h.cell (p := ⟨w.heap.size, 0, none⟩) (by show w.heap.size < _; omega)).trans hT.a.1, (h.cell (p := ⟨w.heap.size, 1, none⟩) (by show w.heap.size < _; omega)).trans hT.a.2.1, (h.cell (p := ⟨w.heap.size, 2, none⟩) (by show w.heap.size < _; omega)).trans hT.a.2.2, (h.cell (p := ⟨w.heap.size + 1, 0, none⟩) (by show w.heap.size + 1 < _; omega)).trans hT.b.1, (h.cell (p := ⟨w.heap.size + 1, 1, none⟩) (by show w.heap.size + 1 < _; omega)).trans hT.b.2.1, (h.cell (p := ⟨w.heap.size + 1, 2, none⟩) (by show w.heap.size + 1 < _; omega)).trans hT.b.2.2⟩
  have HC : Hid (cmpI (a.num * (b.den : Int)) (b.num * (a.den : Int)) = c) := hc
  have HL : Hid ((mag (a.num * (b.den : Int)).natAbs).length ≤ 3000 ∧ (mag (b.num * (a.den : Int)).natAbs).length ≤ 3000) := by
    have h2 := mul_len a.num (b.den : Int)
    have h3 := mul_len b.num (a.den : Int)
    rw [Int.natAbs_natCast] at h2 h3
    have := ha.1; have := ha.2; have := hb.1; have := hb.2
    refine ⟨?_, ?_⟩ <;> omega
  clear hx hy ha hb hc
  go_enter Tryz.func28, Tryz.ntmps28
  go_upto_region 1 with fail
  rw [← hT.eq]
  clear hT
  have hzU : W.heap.size ≤ W.drew.heap.size := Nat.le_refl _
  have S0 : Step8 0 := ⟨trivial⟩
  go_region_held3 (fun w' => (w'.cell? ⟨w.heap.size, 0, none⟩ = some (.bool na) ∧ w'.cell? ⟨w.heap.size, 1, none⟩ = some (.slice ao la ca) ∧ w'.cell? ⟨w.heap.size, 2, none⟩ = some (.slice po lp cp) ∧ w'.cell? ⟨w.heap.size + 1, 0, none⟩ = some (.bool nb) ∧ w'.cell? ⟨w.heap.size + 1, 1, none⟩ = some (.slice bo lb cb) ∧ w'.cell? ⟨w.heap.size + 1, 2, none⟩ = some (.slice qo lq cq)))
    (with_reducible (first | exact KW.out _ (Below.refl _ _).drew | exact KW.out _ (by assumption) | (refine KW.out _ ?_; (repeat (first | refine below_alloc ?_ (Nat.le_refl _) | refine Below.drew ?_ | refine below_set ?_ (by omega))); (first | exact hbF5 | exact hbF4 | exact hbF3 | exact hbF2 | exact hbF1 | exact Below.refl _ _))))
    (first
      | (have _t := S0; go_at_call 69; refine with_held (S := fun w9 => Below W.heap.size W w9) (by show Below _ _ _; with_reducible ((repeat (first | refine below_alloc ?_ (Nat.le_refl _) | refine Below.drew ?_ | refine below_set ?_ (by omega))); (first | exact hbF5 | exact hbF4 | exact hbF3 | exact hbF2 | exact hbF1 | exact Below.refl _ _))) (fun hS => ?_); refine (qden_any nb bo qo lb cb lq cq _ (by omega)).mono ?_; rintro e f1 ⟨rfl, hb⟩; skip; have hbF1 : Below W.heap.size W f1 := bnext hS hb; have hzF1 := hbF1.size; clear hS hb S0; have S1 : Step8 1 := ⟨trivial⟩)
      | (have _t := S1; go_at_call 71; refine with_held (S := fun w9 => Below W.heap.size W w9) (by show Below _ _ _; with_reducible ((repeat (first | refine below_alloc ?_ (Nat.le_refl _) | refine Below.drew ?_ | refine below_set ?_ (by omega))); (first | exact hbF5 | exact hbF4 | exact hbF3 | exact hbF2 | exact hbF1 | exact Below.refl _ _))) (fun hS => ?_); refine with_held (S := fun w9 => Below f1.heap.size f1 w9) (by show Below _ _ _; with_reducible ((repeat (refine below_alloc ?_ (Nat.le_refl _))); exact Below.refl _ _)) (fun hS2 => ?_); refine (rtimes_any na false ao qo la ca lq cq a.num (b.den : Int) _ (HX.out.1.num.later hS) (row_int (HX.out.2.1.den.later hS)) (by omega) (by omega)).mono ?_; rintro e f2 ⟨n1, o1, l1, c1, rfl, hs, ho, hb⟩; have H2 : Hid (IntAt f2 n1 o1 l1 c1 (a.num * (b.den : Int))) := ho.int hs; have hl1 : l1 ≤ 3000 := (by rw [ho.row.hlen]; exact HL.out.1); clear hs ho; have hbF2 : Below W.heap.size W f2 := bnext hS hb; have hzF2 := hbF2.size; clear hS hb S1; clear hS2; have S2 : Step8 2 := ⟨trivial⟩)
      | (have _t := S2; go_at_call 69; refine with_held (S := fun w9 => Below W.heap.size W w9) (by show Below _ _ _; with_reducible ((repeat (first | refine below_alloc ?_ (Nat.le_refl _) | refine Below.drew ?_ | refine below_set ?_ (by omega))); (first | exact hbF5 | exact hbF4 | exact hbF3 | exact hbF2 | exact hbF1 | exact Below.refl _ _))) (fun hS => ?_); refine with_held (S := fun w9 => Below f2.heap.size f2 w9) (by show Below _ _ _; with_reducible ((repeat (refine below_alloc ?_ (Nat.le_refl _))); exact Below.refl _ _)) (fun hS2 => ?_); refine (qden_any na ao po la ca lp cp _ (by omega)).mono ?_; rintro e f3 ⟨rfl, hb⟩; have H3 : Hid (IntAt f3 n1 o1 l1 c1 (a.num * (b.den : Int))) := H2.out.later (bnext hS2 hb); have hbF3 : Below W.heap.size W f3 := bnext hS hb; have hzF3 := hbF3.size; clear hS hb S2; clear hS2; have S3 : Step8 3 := ⟨trivial⟩)
      | (have _t := S3; go_at_call 71; refine with_held (S := fun w9 => Below W.heap.size W w9) (by show Below _ _ _; with_reducible ((repeat (first | refine below_alloc ?_ (Nat.le_refl _) | refine Below.drew ?_ | refine below_set ?_ (by omega))); (first | exact hbF5 | exact hbF4 | exact hbF3 | exact hbF2 | exact hbF1 | exact Below.refl _ _))) (fun hS => ?_); refine with_held (S := fun w9 => Below f3.heap.size f3 w9) (by show Below _ _ _; with_reducible ((repeat (refine below_alloc ?_ (Nat.le_refl _))); exact Below.refl _ _)) (fun hS2 => ?_); refine (rtimes_any nb false bo po lb cb lp cp b.num (a.den : Int) _ (HX.out.2.1.num.later hS) (row_int (HX.out.1.den.later hS)) (by omega) (by omega)).mono ?_; rintro e f4 ⟨n2, o2, l2, c2, rfl, hs, ho, hb⟩; have H4 : Hid (IntAt f4 n1 o1 l1 c1 (a.num * (b.den : Int)) ∧ IntAt f4 n2 o2 l2 c2 (b.num * (a.den : Int))) := ⟨H3.out.later (bnext hS2 hb), ho.int hs⟩; have hl2 : l2 ≤ 3000 := (by rw [ho.row.hlen]; exact HL.out.2); clear hs ho; have hbF4 : Below W.heap.size W f4 := bnext hS hb; have hzF4 := hbF4.size; clear hS hb S3; clear hS2; have S4 : Step8 4 := ⟨trivial⟩)
      | (have _t := S4; go_at_call 70; refine with_held (S := fun w9 => Below W.heap.size W w9) (by show Below _ _ _; with_reducible ((repeat (first | refine below_alloc ?_ (Nat.le_refl _) | refine Below.drew ?_ | refine below_set ?_ (by omega))); (first | exact hbF5 | exact hbF4 | exact hbF3 | exact hbF2 | exact hbF1 | exact Below.refl _ _))) (fun hS => ?_); refine with_held (S := fun w9 => Below f4.heap.size f4 w9) (by show Below _ _ _; with_reducible ((repeat (refine below_alloc ?_ (Nat.le_refl _))); exact Below.refl _ _)) (fun hS2 => ?_); refine (rcmp_any n1 n2 o1 o2 l1 c1 l2 c2 _ _ _ (H4.out.1.later hS2) (H4.out.2.later hS2) (by omega) (by omega) c HC.out).mono ?_; rintro e f5 ⟨rfl, hb⟩; skip; have hbF5 : Below W.heap.size W f5 := bnext hS hb; have hzF5 := hbF5.size; clear hS hb S4; clear hS2; skip))
  all_goals go_wp2
  go_ret
  exact ⟨rfl, bnext HX.out.2.2 hbF5⟩
set_option maxRecDepth 100000 in
set_option maxHeartbeats 4000000 in
theorem qabs_any (na : Bool) (ao po : Option Addr) (la ca lp cp : Nat) (a : Rat) (w : World) (hx : RatAt w na ao la ca po lp cp a) (hl : la ≤ 1073741824) :
    Calls Tryz.prog 23 #[.agg #[.bool na, .slice ao la ca, .slice po lp cp]] w fun e w' => SomeR w w' e (absR a) := by
  obtain ⟨W, hT⟩ := ROne2.mk' w na ao po la ca lp cp
  have hsz := hT.size
  have HX : Hid (RatAt W na ao la ca po lp cp a) := hx.later hT.below
  have KW : Hid (∀ w' : World, Below W.heap.size W w' → w'.cell? ⟨w.heap.size, 0, none⟩ = some (.bool na) ∧ w'.cell? ⟨w.heap.size, 1, none⟩ = some (.slice ao la ca) ∧ w'.cell? ⟨w.heap.size, 2, none⟩ = some (.slice po lp cp)) := fun w' h => ⟨(h.cell (p := ⟨w.heap.size, 0, none⟩) (by show w.heap.size < _; omega)).trans hT.a.1, (h.cell (p := ⟨w.heap.size, 1, none⟩) (by show w.heap.size < _; omega)).trans hT.a.2.1, (h.cell (p := ⟨w.heap.size, 2, none⟩) (by show w.heap.size < _; omega)).trans hT.a.2.2⟩
  have KS : Hid (∀ X : World, Below W.heap.size W X → ∀ x y z, (fun w' : World => w'.cell? ⟨w.heap.size, 0, none⟩ = some (.bool na) ∧ w'.cell? ⟨w.heap.size, 1, none⟩ = some (.slice ao la ca) ∧ w'.cell? ⟨w.heap.size, 2, none⟩ = some (.slice po lp cp)) (((X.setCell ⟨w.heap.size + 1, 0, none⟩ x).setCell ⟨w.heap.size + 1, 1, none⟩ y).setCell ⟨w.heap.size + 1, 2, none⟩ z)) := fun X h x y z => by
    obtain ⟨h0, h1, h2⟩ := KW.out X h
    (try dsimp only)
    rw [cell_off (by omega), cell_off (by omega), cell_off (by omega), cell_off (by omega), cell_off (by omega), cell_off (by omega), cell_off (by omega), cell_off (by omega), cell_off (by omega)]
    exact ⟨h0, h1, h2⟩
  have HF : Hid (Fresh3 W (w.heap.size + 1) ∧ Below w.heap.size w W) := ⟨hT.r, hT.below⟩
  clear hx
  go_enter Tryz.func23, Tryz.ntmps23
  go_upto_region 1 with fail
  rw [← hT.eq]
  clear hT
  have hzU : W.heap.size ≤ W.drew.heap.size := Nat.le_refl _
  have S0 : Step8 0 := ⟨trivial⟩
  go_region_held3 (fun w' => (w'.cell? ⟨w.heap.size, 0, none⟩ = some (.bool na) ∧ w'.cell? ⟨w.heap.size, 1, none⟩ = some (.slice ao la ca) ∧ w'.cell? ⟨w.heap.size, 2, none⟩ = some (.slice po lp cp)))
    (with_reducible (first | exact KS.out _ hbF1 _ _ _ | exact KW.out _ (Below.refl _ _).drew | exact KW.out _ (by assumption) | (refine KW.out _ ?_; (repeat (first | refine below_alloc ?_ (Nat.le_refl _) | refine Below.drew ?_ | refine below_set ?_ (by omega))); (first | exact hbF1 | exact Below.refl _ _))))
    (first
      | (have _t := S0; go_at_call 67; refine with_held (S := fun w9 => Below W.heap.size W w9) (by show Below _ _ _; with_reducible ((repeat (first | refine below_alloc ?_ (Nat.le_refl _) | refine Below.drew ?_ | refine below_set ?_ (by omega))); (first | exact hbF1 | exact Below.refl _ _))) (fun hS => ?_); refine (rabs_any na ao la ca a.num _ (HX.out.num.later hS) (by omega)).mono ?_; rintro e f1 ⟨n1, o1, l1, c1, rfl, hi, hb⟩; have H1 : Hid (RatAt f1 n1 o1 l1 c1 po lp cp (absR a) ∧ Below W.heap.size W f1) := ⟨⟨hi, (HX.out.den.later hS).later hb⟩, bnext hS hb⟩; clear hi; obtain ⟨k5, k2, k3, k4⟩ := HF.out.1.later (bnext hS hb) (by omega); have hbF1 : Below W.heap.size W f1 := bnext hS hb; have hzF1 := hbF1.size; clear hS hb S0; skip))
  all_goals go_wp2
  exact bodyPost_ret (v := .agg #[.bool n1, .slice o1 l1 c1, .slice po lp cp]) (by simp [results, Tryz.results23, go_sem, k2, k3, k4]) rfl
    ⟨_, _, _, _, _, _, _, rfl, rat_kept H1.out.1 ⟨k2, k3, k4⟩, below_store3 (bnext HF.out.2 H1.out.2) (by omega) _ _ _⟩
set_option maxRecDepth 100000 in
set_option maxHeartbeats 4000000 in
theorem rabs2_any (na : Bool) (ao po : Option Addr) (la ca lp cp : Nat) (a : Rat) (w : World) (hx : RatAt w na ao la ca po lp cp a) (hl : la ≤ 1073741824) (hl' : lp ≤ 1073741824) (hT0 : TabAt 0 Lib.deBruijn64tab w) :
    Calls Tryz.prog 16 #[.agg #[.bool na, .slice ao la ca, .slice po lp cp]] w fun e w' => SomeR w w' e (absR a) := by
  obtain ⟨W, hT⟩ := ROne2.mk' w na ao po la ca lp cp
  have hsz := hT.size
  have HX : Hid (RatAt W na ao la ca po lp cp a ∧ TabAt 0 Lib.deBruijn64tab W) := ⟨hx.later hT.below, tab_later hT0 hT.below⟩
  have KW : Hid (∀ w' : World, Below W.heap.size W w' → w'.cell? ⟨w.heap.size, 0, none⟩ = some (.bool na) ∧ w'.cell? ⟨w.heap.size, 1, none⟩ = some (.slice ao la ca) ∧ w'.cell? ⟨w.heap.size, 2, none⟩ = some (.slice po lp cp)) := fun w' h => ⟨(h.cell (p := ⟨w.heap.size, 0, none⟩) (by show w.heap.size < _; omega)).trans hT.a.1, (h.cell (p := ⟨w.heap.size, 1, none⟩) (by show w.heap.size < _; omega)).trans hT.a.2.1, (h.cell (p := ⟨w.heap.size, 2, none⟩) (by show w.heap.size < _; omega)).trans hT.a.2.2⟩
  have HF : Hid (Fresh3 W (w.heap.size + 1) ∧ Below w.heap.size w W) := ⟨hT.r, hT.below⟩
  clear hx hT0
  go_enter Tryz.func16, Tryz.ntmps16
  go_upto_region 3 with (go_at_call 10; rw [← hT.eq]; refine (rcheck_good na ao po la ca lp cp a _ HX.out.1 (by omega) (by omega) HX.out.2).mono ?_; rintro e U ⟨rfl, hb1⟩; obtain ⟨p0, p1, p2⟩ := hT.a.later hb1 (by omega))
  have hsU := hb1.size
  have KU : Hid (∀ w' : World, Below U.heap.size U w' → w'.cell? ⟨w.heap.size, 0, none⟩ = some (.bool na) ∧ w'.cell? ⟨w.heap.size, 1, none⟩ = some (.slice ao la ca) ∧ w'.cell? ⟨w.heap.size, 2, none⟩ = some (.slice po lp cp)) := fun w' h => KW.out w' (bnext hb1 h)
  have KS : Hid (∀ X : World, Below U.heap.size U X → ∀ x y z, (fun w' : World => w'.cell? ⟨w.heap.size, 0, none⟩ = some (.bool na) ∧ w'.cell? ⟨w.heap.size, 1, none⟩ = some (.slice ao la ca) ∧ w'.cell? ⟨w.heap.size, 2, none⟩ = some (.slice po lp cp)) (((X.setCell ⟨w.heap.size + 1, 0, none⟩ x).setCell ⟨w.heap.size + 1, 1, none⟩ y).setCell ⟨w.heap.size + 1, 2, none⟩ z)) := fun X h x y z => by
    obtain ⟨h0, h1, h2⟩ := KU.out X h
    (try dsimp only)
    rw [cell_off (by omega), cell_off (by omega), cell_off (by omega), cell_off (by omega), cell_off (by omega), cell_off (by omega), cell_off (by omega), cell_off (by omega), cell_off (by omega)]
    exact ⟨h0, h1, h2⟩
  have HU : Hid (RatAt U na ao la ca po lp cp a ∧ Fresh3 U (w.heap.size + 1) ∧ Below w.heap.size w U) := ⟨HX.out.1.later hb1, HF.out.1.later hb1 (by omega), bnext HF.out.2 hb1⟩
  clear hT hb1 p0 p1 p2 KW
  have hzU : U.heap.size ≤ U.drew.heap.size := Nat.le_refl _
  have S0 : Step8 0 := ⟨trivial⟩
  go_region_held3 (fun w' => (w'.cell? ⟨w.heap.size, 0, none⟩ = some (.bool na) ∧ w'.cell? ⟨w.heap.size, 1, none⟩ = some (.slice ao la ca) ∧ w'.cell? ⟨w.heap.size, 2, none⟩ = some (.slice po lp cp)))
    (with_reducible (first | exact KS.out _ hbF2 _ _ _ | exact KU.out _ (Below.refl _ _).drew | exact KU.out _ (by assumption) | (refine KU.out _ ?_; (repeat (first | refine below_alloc ?_ (Nat.le_refl _) | refine Below.drew ?_ | refine below_set ?_ (by omega))); (first | exact hbF2 | exact hbF1 | exact Below.refl _ _))))
    (first
      | (have _t := S0; go_at_call 57; refine with_held (S := fun w9 => Below U.heap.size U w9) (by show Below _ _ _; with_reducible ((repeat (first | refine below_alloc ?_ (Nat.le_refl _) | refine Below.drew ?_ | refine below_set ?_ (by omega))); (first | exact hbF2 | exact hbF1 | exact Below.refl _ _))) (fun hS => ?_); refine (babs_any na ao la ca a.num _ (HU.out.1.num.later hS) (by omega)).mono ?_; rintro e f1 ⟨n1, o1, l1, c1, rfl, hs, ho, hb⟩; have H1 : Hid (IntAt f1 n1 o1 l1 c1 (absR a).num) := ho.int hs; clear hs ho; have hbF1 : Below U.heap.size U f1 := bnext hS hb; have hzF1 := hbF1.size; clear hS hb S0; have S1 : Step8 1 := ⟨trivial⟩)
      | (have _t := S1; go_at_call 58; refine with_held (S := fun w9 => Below U.heap.size U w9) (by show Below _ _ _; with_reducible ((repeat (first | refine below_alloc ?_ (Nat.le_refl _) | refine Below.drew ?_ | refine below_set ?_ (by omega))); (first | exact hbF2 | exact hbF1 | exact Below.refl _ _))) (fun hS => ?_); refine with_held (S := fun w9 => Below f1.heap.size f1 w9) (by show Below _ _ _; with_reducible ((repeat (refine below_alloc ?_ (Nat.le_refl _))); exact Below.refl _ _)) (fun hS2 => ?_); refine (cloneNat_any po lp cp a.den _ (HU.out.1.den.later hS) (by omega)).mono ?_; rintro e f2 ⟨o2, l2, c2, rfl, ho, hb⟩; have H2 : Hid (RatAt f2 n1 o1 l1 c1 o2 l2 c2 (absR a) ∧ Below U.heap.size U f2) := ⟨⟨H1.out.later (bnext hS2 hb), ho.row⟩, bnext hS hb⟩; clear ho; obtain ⟨k5, k2, k3, k4⟩ := HU.out.2.1.later (bnext hS hb) (by omega); have hbF2 : Below U.heap.size U f2 := bnext hS hb; have hzF2 := hbF2.size; clear hS hb S1; clear hS2; skip))
  all_goals go_wp2
  exact bodyPost_ret (v := .agg #[.bool n1, .slice o1 l1 c1, .slice o2 l2 c2]) (by simp [results, Tryz.results16, go_sem, k2, k3, k4]) rfl
    ⟨_, _, _, _, _, _, _, rfl, rat_kept H2.out.1 ⟨k2, k3, k4⟩, below_store3 (bnext HU.out.2.2 H2.out.2) (by omega) _ _ _⟩
end Go.Proofs.YtiiefpnkpfliiaaGreatDoor
