/-
  Walks: what is a rational; is it long, is it 0; are two the same.
-/
import Derived.Test.YtiiefpnkpfliiaaGreatDoorPA14
import Derived.Test.YtiiefpnkpfliiaaGreatDoorPA16
import Derived.Deep.DeepCutAuto
import Derived.Deep.RegionHeld3
namespace Go.Proofs.YtiiefpnkpfliiaaGreatDoor
open Go.RowKit
set_option linter.unusedVariables false
set_option linter.unusedSimpArgs false
/-- a rational handed in -/
structure ROne1 (w W : World) (na : Bool) (ao po : Option Addr) (la ca lp cp : Nat) : Prop where
  eq : W = w.alloc (.cells #[.bool na, .slice ao la ca, .slice po lp cp] 28)
  below : Below w.heap.size w W
  size : W.heap.size = w.heap.size + 1
  a : Boxed3 W w.heap.size na ao la ca po lp cp
theorem ROne1.mk' (w : World) (na : Bool) (ao po : Option Addr) (la ca lp cp : Nat) : ∃ W, ROne1 w W na ao po la ca lp cp :=
  ⟨_, rfl, (Below.refl _ _).alloc (Nat.le_refl _) _, by simp, ⟨by simp [go_sem], by simp [go_sem], by simp [go_sem]⟩⟩
/-- a rational handed in, a rational to come -/
structure ROne2 (w W : World) (na : Bool) (ao po : Option Addr) (la ca lp cp : Nat) : Prop where
  eq : W = (w.alloc (.cells #[.bool na, .slice ao la ca, .slice po lp cp] 28)).alloc (.cells #[.bool false, .slice none 0 0, .slice none 0 0] 28)
  below : Below w.heap.size w W
  size : W.heap.size = w.heap.size + 2
  a : Boxed3 W w.heap.size na ao la ca po lp cp
  r : Fresh3 W (w.heap.size + 1)
theorem ROne2.mk' (w : World) (na : Bool) (ao po : Option Addr) (la ca lp cp : Nat) : ∃ W, ROne2 w W na ao po la ca lp cp :=
  ⟨_, rfl, ((Below.refl _ _).alloc (Nat.le_refl _) _).alloc (by simp) _, by simp, ⟨by simp [go_sem], by simp [go_sem], by simp [go_sem]⟩, ⟨fun j => by simp [go_sem], by simp [go_sem], by simp [go_sem], by simp [go_sem]⟩⟩
/-- two rationals handed in -/
structure RTwo2 (w W : World) (na nb : Bool) (ao po bo qo : Option Addr) (la ca lp cp lb cb lq cq : Nat) : Prop where
  eq : W = (w.alloc (.cells #[.bool na, .slice ao la ca, .slice po lp cp] 28)).alloc (.cells #[.bool nb, .slice bo lb cb, .slice qo lq cq] 28)
  below : Below w.heap.size w W
  size : W.heap.size = w.heap.size + 2
  a : Boxed3 W w.heap.size na ao la ca po lp cp
  b : Boxed3 W (w.heap.size + 1) nb bo lb cb qo lq cq
theorem RTwo2.mk' (w : World) (na nb : Bool) (ao po bo qo : Option Addr) (la ca lp cp lb cb lq cq : Nat) : ∃ W, RTwo2 w W na nb ao po bo qo la ca lp cp lb cb lq cq :=
  ⟨_, rfl, ((Below.refl _ _).alloc (Nat.le_refl _) _).alloc (by simp) _, by simp, ⟨by simp [go_sem], by simp [go_sem], by simp [go_sem]⟩, ⟨by simp [go_sem], by simp [go_sem], by simp [go_sem]⟩⟩
theorem RatAt.pos {w : World} {neg : Bool} {ao bo : Option Addr} {l c lb cb : Nat} {r : Rat} (h : RatAt w neg ao l c bo lb cb r) : 0 < lb := by
  rw [h.den.hlen]; exact mag_len_pos.2 r.den_pos
set_option maxRecDepth 100000 in
set_option maxHeartbeats 1000000 in
theorem rcheck_good (na : Bool) (ao po : Option Addr) (la ca lp cp : Nat) (a : Rat) (w : World) (hx : RatAt w na ao la ca po lp cp a) (hl : la ≤ 1073741824) (hl' : lp ≤ 1073741824) (hT : TabAt 0 Lib.deBruijn64tab w) :
    Calls Tryz.prog 10 #[.agg #[.bool na, .slice ao la ca, .slice po lp cp]] w fun e w' => e = .returned (.int .i64 0) ∧ Below w.heap.size w w' := by
  obtain ⟨W, hW⟩ := ROne1.mk' w na ao po la ca lp cp
  have hsz := hW.size
  have HX : Hid (RatAt W na ao la ca po lp cp a ∧ TabAt 0 Lib.deBruijn64tab W) := ⟨hx.later hW.below, tab_later hT hW.below⟩
  have hp : ((lp : Int) == 0) = false := by have := hx.pos; simp; omega
  have HG : Hid (decide (Nat.gcd a.num.natAbs a.den = 1) = true) := decide_eq_true a.reduced
  clear hx hT
  go_enter Tryz.func10, Tryz.ntmps10
  go_wp2_with (first
    | (go_at_call 51; have _t := hb1; refine (check_at false po lp cp _ _ (HX.out.1.den.later hb1) (by omega) 0 (row_int HX.out.1.den).may).mono ?_; rintro e w2 ⟨rfl, hb2⟩; clear p0 p1 p2; obtain ⟨p0, p1, p2⟩ := hW.a.later (bnext hb1 hb2) (by omega))
    | (go_at_call 51; rw [← hW.eq]; refine (check_at na ao la ca _ _ HX.out.1.num.row (by omega) 0 HX.out.1.num.may).mono ?_; rintro e w1 ⟨rfl, hb1⟩; obtain ⟨p0, p1, p2⟩ := hW.a.later hb1 (by omega))
    | (go_at_call 52; refine (apart_any ao po la ca lp cp _ _ _ (HX.out.1.num.row.later (bnext hb1 hb2)) (HX.out.1.den.later (bnext hb1 hb2)) a.den_pos hl hl' (tab_later HX.out.2 (bnext hb1 hb2)) true HG.out).mono ?_; rintro e w3 ⟨rfl, hb3⟩))
  go_ret
  exact ⟨rfl, bnext hW.below (bnext (bnext hb1 hb2) hb3)⟩
set_option maxRecDepth 100000 in
set_option maxHeartbeats 1000000 in
theorem checkBoth_good (na nb : Bool) (ao po bo qo : Option Addr) (la ca lp cp lb cb lq cq : Nat) (a b : Rat) (w : World) (hx : RatAt w na ao la ca po lp cp a) (hy : RatAt w nb bo lb cb qo lq cq b) (hl : la ≤ 1073741824) (hl' : lp ≤ 1073741824) (hm : lb ≤ 1073741824) (hm' : lq ≤ 1073741824) (hT : TabAt 0 Lib.deBruijn64tab w) :
    Calls Tryz.prog 73 #[.agg #[.bool na, .slice ao la ca, .slice po lp cp], .agg #[.bool nb, .slice bo lb cb, .slice qo lq cq]] w fun e w' => e = .returned (.int .i64 0) ∧ Below w.heap.size w w' := by
  obtain ⟨W, hW⟩ := RTwo2.mk' w na nb ao po bo qo la ca lp cp lb cb lq cq
  have hsz := hW.size
  have HX : Hid (RatAt W na ao la ca po lp cp a ∧ RatAt W nb bo lb cb qo lq cq b ∧ TabAt 0 Lib.deBruijn64tab W) := ⟨hx.later hW.below, hy.later hW.below, tab_later hT hW.below⟩
  clear hx hy hT
  go_enter Tryz.func73, Tryz.ntmps73
  go_wp2_with (first
    | (go_at_call 10; have _t := hb1; refine (rcheck_good nb bo qo lb cb lq cq b _ (HX.out.2.1.later hb1) hm hm' (tab_later HX.out.2.2 hb1)).mono ?_; rintro e w2 ⟨rfl, hb2⟩)
    | (go_at_call 10; rw [← hW.eq]; refine (rcheck_good na ao po la ca lp cp a _ HX.out.1 hl hl' HX.out.2.2).mono ?_; rintro e w1 ⟨rfl, hb1⟩; obtain ⟨p0, p1, p2⟩ := hW.b.later hb1 (by omega)))
  go_ret
  exact ⟨rfl, bnext hW.below (bnext hb1 hb2)⟩
/-- numbers that are no rational: a limb on top is 0, a sign without a number, no denominator, or a common divisor -/
def mayR (neg : Bool) (zs ds : List Int) : Bool := mayB neg zs && (mayB false ds && (decide (0 < ds.length) && decide (Nat.gcd (val 18446744073709551616 zs).natAbs (val 18446744073709551616 ds).natAbs = 1)))
theorem rat_of_may {w : World} {neg : Bool} {ao po : Option Addr} {la ca lp cp : Nat} {zs ds : List Int} (hx : RowAt w .u64 ao la ca zs) (wx : Wd 18446744073709551616 zs) (hy : RowAt w .u64 po lp cp ds) (wy : Wd 18446744073709551616 ds) (h : mayR neg zs ds = true) : ∃ r : Rat, RatAt w neg ao la ca po lp cp r ∧ zs = mag r.num.natAbs ∧ ds = mag r.den := by
  unfold mayR at h
  simp only [Bool.and_eq_true, decide_eq_true_eq] at h
  obtain ⟨h1, h2, h3, h4⟩ := h
  obtain ⟨v, hv, ev⟩ := int_of_may hx wx h1
  obtain ⟨d, hd, ed⟩ := int_of_may hy wy h2
  have hdn : d = (d.natAbs : Int) := by
    have hs := hd.sg
    have h5 : ¬ d < 0 := of_decide_eq_false (by simpa [sgB] using hs.symm)
    omega
  have e1 : (val 18446744073709551616 zs).natAbs = v.natAbs := by rw [ev, mag_val, Int.natAbs_natCast]
  have e2 : (val 18446744073709551616 ds).natAbs = d.natAbs := by rw [ed, mag_val, Int.natAbs_natCast]
  rw [e1, e2] at h4
  have h0 : d.natAbs ≠ 0 := fun e => by rw [ed, e] at h3; exact absurd h3 (by decide)
  exact ⟨⟨v, d.natAbs, h0, h4⟩, ⟨hv, hd.row⟩, ev, ed⟩
theorem nmay_eq (zs : List Int) : nmayB zs = mayB false zs := rfl
set_option maxRecDepth 100000 in
set_option maxHeartbeats 1000000 in
theorem qmay_any (na : Bool) (ao po : Option Addr) (la ca lp cp : Nat) (zs ds : List Int) (w : World) (hx : RowAt w .u64 ao la ca zs) (wx : Wd 18446744073709551616 zs) (hy : RowAt w .u64 po lp cp ds) (wy : Wd 18446744073709551616 ds) (hl : la ≤ 16777216) (hl' : lp ≤ 16777216) (c : Bool) (hc : mayR na zs ds = c) :
    Calls Tryz.prog 7 #[.agg #[.bool na, .slice ao la ca, .slice po lp cp]] w fun e w' => e = .returned (.bool c) ∧ Below w.heap.size w w' := by
  obtain ⟨W, hW⟩ := ROne1.mk' w na ao po la ca lp cp
  have hsz := hW.size
  have HX : Hid (RowAt W .u64 ao la ca zs ∧ RowAt W .u64 po lp cp ds) := ⟨hx.later hW.below, hy.later hW.below⟩
  have HC : Hid (mayR na zs ds = c) := hc
  have HL : Hid (lp = ds.length) := hy.hlen
  cases h1 : mayB na zs
  · obtain rfl : c = false := by rw [← HC.out]; simp [mayR, h1]
    have H1 : Hid (mayB na zs = false) := h1
    clear hx hy hc h1
    go_enter Tryz.func7, Tryz.ntmps7
    go_wp2_with (go_at_call 34; rw [← hW.eq]; refine (may_at na ao la ca zs _ HX.out.1 (by omega) false H1.out).mono ?_; rintro e w1 ⟨rfl, hb1⟩)
    go_ret
    exact ⟨rfl, bnext hW.below hb1⟩
  · have H1 : Hid (mayB na zs = true) := h1
    cases h2 : mayB false ds
    · obtain rfl : c = false := by rw [← HC.out]; simp [mayR, h2]
      have H2 : Hid (nmayB ds = false) := (nmay_eq ds).trans h2
      have hcon : ∀ X, RowAt X .u64 po lp cp ds → Calls Tryz.prog 35 #[.slice po lp cp] X fun e w' => e = .returned (.bool false) ∧ w' = X := fun X h => (nmay_any po lp cp ds X h (by omega)).mono fun e w' k => by rw [H2.out] at k; exact k
      clear hx hy hc h1 h2
      go_enter Tryz.func7, Tryz.ntmps7
      go_wp2_with (first
        | (go_at_call 34; rw [← hW.eq]; refine (may_at na ao la ca zs _ HX.out.1 (by omega) true H1.out).mono ?_; rintro e w1 ⟨rfl, hb1⟩; obtain ⟨p0, p1, p2⟩ := hW.a.later hb1 (by omega))
        | (go_at_call 35; refine (hcon _ (HX.out.2.later hb1)).mono ?_; rintro e w2 ⟨rfl, hw2⟩; replace hw2 := hw2.symm; subst hw2))
      go_ret
      exact ⟨rfl, bnext hW.below hb1⟩
    · have H2 : Hid (nmayB ds = true) := (nmay_eq ds).trans h2
      have hcon : ∀ X, RowAt X .u64 po lp cp ds → Calls Tryz.prog 35 #[.slice po lp cp] X fun e w' => e = .returned (.bool true) ∧ w' = X := fun X h => (nmay_any po lp cp ds X h (by omega)).mono fun e w' k => by rw [H2.out] at k; exact k
      by_cases h3 : lp = 0
      · obtain rfl : c = false := by rw [← HC.out]; have : ds.length = 0 := by have := HL.out; omega
                                     simp [mayR, this]
        subst h3
        clear hx hy hc h1 h2
        go_enter Tryz.func7, Tryz.ntmps7
        go_wp2_with (first
          | (go_at_call 34; rw [← hW.eq]; refine (may_at na ao la ca zs _ HX.out.1 (by omega) true H1.out).mono ?_; rintro e w1 ⟨rfl, hb1⟩; obtain ⟨p0, p1, p2⟩ := hW.a.later hb1 (by omega))
          | (go_at_call 35; refine (hcon _ (HX.out.2.later hb1)).mono ?_; rintro e w2 ⟨rfl, hw2⟩; replace hw2 := hw2.symm; subst hw2))
        go_ret
        exact ⟨rfl, bnext hW.below hb1⟩
      · have h3' : ((lp : Int) == 0) = false := by simp; omega
        obtain ⟨v, hv, ev⟩ := int_of_may HX.out.1 wx h1
        obtain ⟨d, hd, ed⟩ := int_of_may HX.out.2 wy h2
        have HG : Hid (decide (Nat.gcd v.natAbs d.natAbs = 1) = c) := by
          show _ = _
          rw [← HC.out]; unfold mayR
          rw [h1, h2, decide_eq_true (show 0 < ds.length by have := HL.out; omega), Bool.true_and, Bool.true_and, Bool.true_and, ev, ed, mag_val, mag_val, Int.natAbs_natCast, Int.natAbs_natCast]
        have HR : Hid (RowAt W .u64 ao la ca (mag v.natAbs) ∧ RowAt W .u64 po lp cp (mag d.natAbs)) := ⟨hv.row, hd.row⟩
        obtain ⟨gn, hgn⟩ : ∃ gn, Nat.gcd v.natAbs d.natAbs = gn := ⟨_, rfl⟩
        have HGn : Hid (decide (gn = 1) = c) := by show _ = _; rw [← hgn]; exact HG.out
        have hgcd : ∀ X, Below W.heap.size W X → Calls Tryz.prog 48 #[.slice ao la ca, .slice po lp cp] X fun e w' => ∃ go lg cg, e = .returned (.slice go lg cg) ∧ RowAt w' .u64 go lg cg (mag gn) ∧ Below X.heap.size X w' := fun X h => (ngcd_any ao po la ca lp cp v.natAbs d.natAbs X (HR.out.1.later h) (HR.out.2.later h) hl hl').mono fun e w' ⟨go, lg, cg, k1, k2, _, k3⟩ => ⟨go, lg, cg, k1, hgn ▸ k2, k3⟩
        clear hx hy hc h1 h2 hv hd ev ed hgn HG
        have key : ∀ (go : Option Addr) (lg cg : Nat) (X : World), RowAt X .u64 go lg cg (mag gn) → (((lg : Int) == 1) = false ∧ c = false) ∨ ∃ g off x, lg = 1 ∧ go = some ⟨g, off, none⟩ ∧ X.cell? ⟨g, off, none⟩ = some (.int .u64 x) ∧ (x == 1) = c := fun go lg cg X h => by
          by_cases e : lg = 1
          · subst e
            obtain ⟨g, off, rfl, _, hcl⟩ := h.get (by decide)
            refine Or.inr ⟨g, off, _, rfl, rfl, hcl 0 (by decide), ?_⟩
            rw [one_limb h.hlen.symm, ← HGn.out]
            by_cases e2 : gn = 1
            · subst e2; rfl
            · rw [decide_eq_false e2]; simp; omega
          · refine Or.inl ⟨by simp; omega, ?_⟩
            rw [← HGn.out]
            refine decide_eq_false fun e2 => e ?_
            rw [h.hlen, e2, one_word]; rfl
        go_enter Tryz.func7, Tryz.ntmps7
        go_upto_region 4 with (first
          | (go_at_call 34; rw [← hW.eq]; refine (may_at na ao la ca zs _ HX.out.1 (by omega) true H1.out).mono ?_; rintro e w1 ⟨rfl, hb1⟩; obtain ⟨p0, p1, p2⟩ := hW.a.later hb1 (by omega))
          | (go_at_call 35; refine (hcon _ (HX.out.2.later hb1)).mono ?_; rintro e w2 ⟨rfl, hw2⟩; replace hw2 := hw2.symm; subst hw2)
          | (go_at_call 48; refine (hgcd _ hb1).mono ?_; rintro e w3 ⟨go, lg, cg, rfl, hr3, hb3⟩))
        rcases key go lg cg _ hr3 with ⟨k1, k2⟩ | ⟨g, off, x, rfl, rfl, k1, k2⟩
        · subst k2
          clear hr3 p0 p1 p2
          go_wp2
          go_ret
          exact ⟨rfl, bnext hW.below (bnext hb1 hb3)⟩
        · have K2 : Hid ((x == 1) = c) := k2
          clear hr3 p0 p1 p2 k2
          go_wp2
          go_ret
          exact ⟨ret_bool K2.out, bnext hW.below (bnext hb1 hb3)⟩
set_option maxRecDepth 100000 in
set_option maxHeartbeats 1000000 in
theorem longRat_any (na : Bool) (ao po : Option Addr) (la ca lp cp : Nat) (n : Int) (w : World) (c : Bool) (hc : (decide (n < (la : Int)) || decide (n < (lp : Int))) = c) :
    Calls Tryz.prog 47 #[.agg #[.bool na, .slice ao la ca, .slice po lp cp], .int .i64 n] w fun e w' => e = .returned (.bool c) ∧ Below w.heap.size w w' := by
  obtain ⟨W, hW⟩ := ROne1.mk' w na ao po la ca lp cp
  have hsz := hW.size
  by_cases h1 : n < (la : Int)
  · obtain rfl : c = true := by rw [← hc, decide_eq_true h1]; rfl
    have hcon : ∀ X, Calls Tryz.prog 94 #[.agg #[.bool na, .slice ao la ca], .int .i64 n] X fun e w' => e = .returned (.bool true) ∧ Below X.heap.size X w' := fun X => (long_any na ao la ca n X).mono fun e w' h => by rw [decide_eq_true h1] at h; exact h
    clear hc h1
    go_enter Tryz.func47, Tryz.ntmps47
    go_wp2_with (go_at_call 94; rw [← hW.eq]; refine (hcon _).mono ?_; rintro e w1 ⟨rfl, hb1⟩)
    go_ret
    exact ⟨rfl, bnext hW.below hb1⟩
  · have hcon : ∀ X, Calls Tryz.prog 94 #[.agg #[.bool na, .slice ao la ca], .int .i64 n] X fun e w' => e = .returned (.bool false) ∧ Below X.heap.size X w' := fun X => (long_any na ao la ca n X).mono fun e w' h => by rw [decide_eq_false h1] at h; exact h
    have HC : Hid (decide (n < (lp : Int)) = c) := by show _ = _; rw [← hc, decide_eq_false h1]; rfl
    clear hc h1
    go_enter Tryz.func47, Tryz.ntmps47
    go_wp2_with (go_at_call 94; rw [← hW.eq]; refine (hcon _).mono ?_; rintro e w1 ⟨rfl, hb1⟩; obtain ⟨p0, p1, p2⟩ := hW.a.later hb1 (by omega))
    go_ret
    exact ⟨ret_bool HC.out, bnext hW.below hb1⟩
set_option maxRecDepth 100000 in
set_option maxHeartbeats 1000000 in
theorem eqrat_same (na nb : Bool) (ao po bo qo : Option Addr) (la ca lp cp lb cb lq cq : Nat) (a : Rat) (w : World) (hx : RatAt w na ao la ca po lp cp a) (hy : RatAt w nb bo lb cb qo lq cq a) (hl : la ≤ 1073741824) (hl' : lp ≤ 1073741824) :
    Calls Tryz.prog 14 #[.agg #[.bool na, .slice ao la ca, .slice po lp cp], .agg #[.bool nb, .slice bo lb cb, .slice qo lq cq]] w fun e w' => e = .returned (.bool true) ∧ Below w.heap.size w w' := by
  obtain ⟨W, hW⟩ := RTwo2.mk' w na nb ao po bo qo la ca lp cp lb cb lq cq
  have hsz := hW.size
  have HX : Hid (RatAt W na ao la ca po lp cp a ∧ RatAt W nb bo lb cb qo lq cq a) := ⟨hx.later hW.below, hy.later hW.below⟩
  have hcon : ∀ X, Below W.heap.size W X → Calls Tryz.prog 53 #[.slice po lp cp, .slice qo lq cq] X fun e w' => e = .returned (.bool true) ∧ Below X.heap.size X w' := fun X h => (eqwords_any po qo lp cp lq cq (mag a.den) (mag a.den) X (HX.out.1.den.later h) (HX.out.2.den.later h) (by omega)).mono fun e w' k => by rw [decide_eq_true rfl] at k; exact k
  clear hx hy
  go_enter Tryz.func14, Tryz.ntmps14
  go_wp2_with (first
    | (go_at_call 11; rw [← hW.eq]; refine (eqint_at na nb ao bo la ca lb cb a.num a.num _ HX.out.1.num HX.out.2.num (by omega) true (decide_eq_true rfl)).mono ?_; rintro e w1 ⟨rfl, hb1⟩; obtain ⟨p0, p1, p2⟩ := hW.a.later hb1 (by omega); obtain ⟨q0, q1, q2⟩ := hW.b.later hb1 (by omega))
    | (go_at_call 53; refine (hcon _ hb1).mono ?_; rintro e w2 ⟨rfl, hb2⟩))
  go_ret
  exact ⟨rfl, bnext hW.below (bnext hb1 hb2)⟩
end Go.Proofs.YtiiefpnkpfliiaaGreatDoor
/-
  Walks: products of rationals. (gen/rprod.py)
-/
namespace Go.Proofs.YtiiefpnkpfliiaaGreatDoor
open Go.RowKit
set_option linter.unusedVariables false
set_option linter.unusedSimpArgs false
/-- a number of the call's own, in a variable of its own -/
def OneV (U wx : World) (r : Nat) (v : Int) : Prop := ∃ n o l c, Boxed wx r n o l c ∧ (r < wx.heap.size ∧ U.heap.size ≤ r) ∧ n = sgB v ∧ Own U.heap.size wx .u64 59 o l c (mag v.natAbs) ∧ Below U.heap.size U wx
theorem ov_a {U y : World} {n : Bool} {o : Option Addr} {l c B : Nat} {v : Int} (hO : Hid (n = sgB v ∧ Own B y .u64 59 o l c (mag v.natAbs) ∧ U.heap.size ≤ B)) (hb : Below U.heap.size U y) : OneV U (y.alloc (.cells #[.bool n, .slice o l c] 26)) y.heap.size v :=
  ⟨n, o, l, c, ⟨by simp [go_sem], by simp [go_sem]⟩, ⟨by simp, hb.size⟩, hO.out.1, own_alloc (hO.out.2.1.mono hO.out.2.2), below_alloc hb (Nat.le_refl _)⟩
theorem ov_b {U y : World} {n : Bool} {o : Option Addr} {l c B r : Nat} {v : Int} (hO : Hid (n = sgB v ∧ Own B y .u64 59 o l c (mag v.natAbs) ∧ U.heap.size ≤ B)) (hb : Below U.heap.size U y) (hF : Fresh y r) (hrB : r < B) (hU : U.heap.size ≤ r) : OneV U ((y.setCell ⟨r, 0, none⟩ (.bool n)).setCell ⟨r, 1, none⟩ (.slice o l c)) r v := by
  obtain ⟨_, f3, f4⟩ := hF
  have hl : r < y.heap.size := cell_lt f3
  exact ⟨n, o, l, c, ⟨by simp [go_sem, f3, f4, hl], by simp [go_sem, f3, f4, hl]⟩, ⟨by simp; omega, hU⟩, hO.out.1, (own_set (own_set hO.out.2.1 hrB) hrB).mono hO.out.2.2, below_set (below_set hb hU) hU⟩
theorem run_mag (w : World) (n : Bool) (o : Option Addr) (l c : Nat) : Sem.run Tryz.prog (Instr.field 26 (.agg #[.bool n, .slice o l c]) 1) w = .ok (.slice o l c) w := by
  have h := run_underlying Tryz.underlying26 w
  unfold Instr.field
  simp [go_sem, h, asAgg]
/-- what is over is a number -/
theorem over_num {na : Bool} {ao go : Option Addr} {la ca lg cg d : Nat} {v q : Int} {U X : World} (hx : IntAt U na ao la ca v) (hy : RowAt U .u64 go lg cg (mag d)) (hl : la ≤ 1073741824) (hl' : lg ≤ 1073741824) (h0 : 0 < d) (hd : (d : Int) ∣ v) (hq : v / (d : Int) = q) (hb : Below U.heap.size U X) :
    Calls Tryz.prog 110 #[.agg #[.bool na, .slice ao la ca], .slice go lg cg] X fun e w' => ∃ n1 o1 l1 c1, e = .returned (.agg #[.bool n1, .slice o1 l1 c1]) ∧ IntAt w' n1 o1 l1 c1 q ∧ Below X.heap.size X w' :=
  (over_any na ao go la ca lg cg v d X (hx.later hb) (hy.later hb) hl hl' h0 hd).mono fun e w' ⟨n1, o1, l1, c1, h1, h2, _, h3⟩ => ⟨n1, o1, l1, c1, h1, hq ▸ h2, h3⟩
set_option maxRecDepth 100000 in
set_option maxHeartbeats 4000000 in
theorem product_rat (na nb : Bool) (ao po bo qo : Option Addr) (la ca lp cp lb cb lq cq : Nat) (a b : Rat) (w : World) (hx : RatAt w na ao la ca po lp cp a) (hy : RatAt w nb bo lb cb qo lq cq b) (ha : Sz a 1000) (hb : Sz b 1000) (hT0 : TabAt 0 Lib.deBruijn64tab w) :
    Calls Tryz.prog 75 #[.agg #[.bool na, .slice ao la ca, .slice po lp cp], .agg #[.bool nb, .slice bo lb cb, .slice qo lq cq]] w fun e w' => NewRat w w' e (a * b) := by
  obtain ⟨W, hT⟩ := RTwo3.mk' w na nb ao po bo qo la ca lp cp lb cb lq cq
  have hsz := hT.size
  have HX : Hid (RatAt W na ao la ca po lp cp a ∧ RatAt W nb bo lb cb qo lq cq b ∧ TabAt 0 Lib.deBruijn64tab W) := ⟨hx.later hT.below, hy.later hT.below, tab_later hT0 hT.below⟩
  have hla : la ≤ 1000 := (hx.len ha).1
  have hlp : lp ≤ 1000 := (hx.len ha).2
  have hlb : lb ≤ 1000 := (hy.len hb).1
  have hlq : lq ≤ 1000 := (hy.len hb).2
  obtain ⟨G, hG⟩ : ∃ G, a.num.natAbs.gcd b.den = G := ⟨_, rfl⟩
  obtain ⟨H, hH⟩ : ∃ H, b.num.natAbs.gcd a.den = H := ⟨_, rfl⟩
  have hG0 : 0 < G := by rw [← hG]; exact Nat.gcd_pos_of_pos_right _ b.den_pos
  have hH0 : 0 < H := by rw [← hH]; exact Nat.gcd_pos_of_pos_right _ a.den_pos
  have HD : Hid ((G : Int) ∣ a.num ∧ (H : Int) ∣ b.num ∧ (H : Int) ∣ (a.den : Int) ∧ (G : Int) ∣ (b.den : Int)) := ⟨hG ▸ gcd_dvd_abs a.num b.den, hH ▸ gcd_dvd_abs b.num a.den, Int.natCast_dvd_natCast.2 (hH ▸ Nat.gcd_dvd_right _ _), Int.natCast_dvd_natCast.2 (hG ▸ Nat.gcd_dvd_right _ _)⟩
  have HGl : Hid ((mag G).length ≤ 1000 ∧ (mag H).length ≤ 1000) := ⟨Nat.le_trans (dvd_len (hG ▸ Nat.gcd_dvd_right _ _) b.den_pos) hb.2, Nat.le_trans (dvd_len (hH ▸ Nat.gcd_dvd_right _ _) a.den_pos) ha.2⟩
  obtain ⟨NA, hNA⟩ : ∃ v : Int, a.num / (G : Int) = v := ⟨_, rfl⟩
  obtain ⟨NB, hNB⟩ : ∃ v : Int, b.num / (H : Int) = v := ⟨_, rfl⟩
  obtain ⟨DA, hDA⟩ : ∃ v : Int, (a.den : Int) / (H : Int) = v := ⟨_, rfl⟩
  obtain ⟨DB, hDB⟩ : ∃ v : Int, (b.den : Int) / (G : Int) = v := ⟨_, rfl⟩
  have HL : Hid ((mag NA.natAbs).length ≤ 1000 ∧ (mag NB.natAbs).length ≤ 1000 ∧ (mag DA.natAbs).length ≤ 1000 ∧ (mag DB.natAbs).length ≤ 1000) := ⟨by rw [← hNA]; exact Nat.le_trans (idiv_len HD.out.1) ha.1, by rw [← hNB]; exact Nat.le_trans (idiv_len HD.out.2.1) hb.1, by rw [← hDA]; exact Nat.le_trans (idiv_len HD.out.2.2.1) ha.2, by rw [← hDB]; exact Nat.le_trans (idiv_len HD.out.2.2.2) hb.2⟩
  obtain ⟨db, hdb⟩ : ∃ d : Nat, DB = (d : Int) := ⟨b.den / G, by rw [← hDB, Int.natCast_ediv]⟩
  have HEnd : Hid ((a * b).num = NA * NB ∧ ((a * b).den : Int) = DA * (db : Int)) := by
    have hp := rmul_parts a b
    rw [hG, hH] at hp
    refine ⟨by rw [hp.1, hNA, hNB], ?_⟩
    rw [hp.2, Int.natCast_mul, Int.natCast_ediv, Int.natCast_ediv, hDA, hDB, hdb]
  have HE : Hid (a.num / (G : Int) = NA ∧ b.num / (H : Int) = NB ∧ (a.den : Int) / (H : Int) = DA ∧ (b.den : Int) / (G : Int) = DB ∧ DB = (db : Int)) := ⟨hNA, hNB, hDA, hDB, hdb⟩
  have KW : Hid (∀ w' : World, Below W.heap.size W w' → (Below W.heap.size W w' ∧ w'.cell? ⟨w.heap.size, 0, none⟩ = some (.bool na) ∧ w'.cell? ⟨w.heap.size, 1, none⟩ = some (.slice ao la ca) ∧ w'.cell? ⟨w.heap.size, 2, none⟩ = some (.slice po lp cp) ∧ w'.cell? ⟨w.heap.size + 1, 0, none⟩ = some (.bool nb) ∧ w'.cell? ⟨w.heap.size + 1, 1, none⟩ = some (.slice bo lb cb) ∧ w'.cell? ⟨w.heap.size + 1, 2, none⟩ = some (.slice qo lq cq))) := fun w' h => ⟨h, (h.cell (p := ⟨w.heap.size, 0, none⟩) (by show w.heap.size < _; omega)).trans hT.a.1, (h.cell (p := ⟨w.heap.size, 1, none⟩) (by show w.heap.size < _; omega)).trans hT.a.2.1, (h.cell (p := ⟨w.heap.size, 2, none⟩) (by show w.heap.size < _; omega)).trans hT.a.2.2, (h.cell (p := ⟨w.heap.size + 1, 0, none⟩) (by show w.heap.size + 1 < _; omega)).trans hT.b.1, (h.cell (p := ⟨w.heap.size + 1, 1, none⟩) (by show w.heap.size + 1 < _; omega)).trans hT.b.2.1, (h.cell (p := ⟨w.heap.size + 1, 2, none⟩) (by show w.heap.size + 1 < _; omega)).trans hT.b.2.2⟩
  have HC1 : Hid (∀ X, Below W.heap.size W X → Calls Tryz.prog 95 #[.slice ao la ca, .slice qo lq cq] X fun e w' => SomeRow X w' e G) := fun X h => hG ▸ common_any ao qo la ca lq cq _ _ X (HX.out.1.num.row.later h) (HX.out.2.1.den.later h) b.den_pos (by omega) (by omega) (tab_later HX.out.2.2 h)
  have HC2 : Hid (∀ X, Below W.heap.size W X → Calls Tryz.prog 95 #[.slice bo lb cb, .slice po lp cp] X fun e w' => SomeRow X w' e H) := fun X h => hH ▸ common_any bo po lb cb lp cp _ _ X (HX.out.2.1.num.row.later h) (HX.out.1.den.later h) a.den_pos (by omega) (by omega) (tab_later HX.out.2.2 h)
  have HF : Hid (Fresh3 W (w.heap.size + 1 + 1) ∧ Below w.heap.size w W) := ⟨hT.r, hT.below⟩
  clear hx hy ha hb hT0 hG hH hNA hNB hDA hDB hdb
  go_enter Tryz.func75, Tryz.ntmps75
  go_upto_region 1 with fail
  rw [← hT.eq]
  clear hT
  go_cut [5, 6] (fun s5 s6 wx => ∃ go lg cg ho lh ch, s5 = .slice go lg cg ∧ s6 = .slice ho lh ch ∧ RowAt wx .u64 go lg cg (mag G) ∧ RowAt wx .u64 ho lh ch (mag H) ∧ Below W.heap.size W wx)
  case first => as_aux_lemma =>
    have hzU : W.heap.size ≤ W.drew.heap.size := Nat.le_refl _
    have S0 : Step8 0 := ⟨trivial⟩
    go_region_held3 (fun w' => (Below W.heap.size W w' ∧ w'.cell? ⟨w.heap.size, 0, none⟩ = some (.bool na) ∧ w'.cell? ⟨w.heap.size, 1, none⟩ = some (.slice ao la ca) ∧ w'.cell? ⟨w.heap.size, 2, none⟩ = some (.slice po lp cp) ∧ w'.cell? ⟨w.heap.size + 1, 0, none⟩ = some (.bool nb) ∧ w'.cell? ⟨w.heap.size + 1, 1, none⟩ = some (.slice bo lb cb) ∧ w'.cell? ⟨w.heap.size + 1, 2, none⟩ = some (.slice qo lq cq)))
      (with_reducible (first | exact KW.out _ (Below.refl _ _).drew | exact KW.out _ (by assumption) | (refine KW.out _ ?_; (repeat (first | refine below_alloc ?_ (Nat.le_refl _) | refine Below.drew ?_ | refine below_set ?_ (by omega))); (first | exact hbF2 | exact hbF1 | exact Below.refl _ _))))
      (first
        | (have _t := S0; go_at_call 95; refine with_held (S := fun w9 => Below W.heap.size W w9) (by show Below _ _ _; with_reducible ((repeat (first | refine below_alloc ?_ (Nat.le_refl _) | refine Below.drew ?_ | refine below_set ?_ (by omega))); (first | exact hbF2 | exact hbF1 | exact Below.refl _ _))) (fun hS => ?_); refine (HC1.out _ hS).mono ?_; rintro e f1 ⟨go, lg, cg, rfl, hr, hb⟩; have H1 : Hid (RowAt f1 .u64 go lg cg (mag G)) := hr; clear hr; have hbF1 : Below W.heap.size W f1 := bnext hS hb; have hzF1 := hbF1.size; clear hS hb S0; have S1 : Step8 1 := ⟨trivial⟩)
        | (have _t := S1; go_at_call 95; refine with_held (S := fun w9 => Below W.heap.size W w9) (by show Below _ _ _; with_reducible ((repeat (first | refine below_alloc ?_ (Nat.le_refl _) | refine Below.drew ?_ | refine below_set ?_ (by omega))); (first | exact hbF2 | exact hbF1 | exact Below.refl _ _))) (fun hS => ?_); refine with_held (S := fun w9 => Below f1.heap.size f1 w9) (by show Below _ _ _; with_reducible ((repeat (refine below_alloc ?_ (Nat.le_refl _))); exact Below.refl _ _)) (fun hS2 => ?_); refine (HC2.out _ hS).mono ?_; rintro e f2 ⟨ho, lh, ch, rfl, hr, hb⟩; have H2 : Hid (RowAt f2 .u64 go lg cg (mag G) ∧ RowAt f2 .u64 ho lh ch (mag H)) := ⟨H1.out.later (bnext hS2 hb), hr⟩; clear hr; have hbF2 : Below W.heap.size W f2 := bnext hS hb; have hzF2 := hbF2.size; clear hS hb S1; clear hS2; skip))
    all_goals go_wp2
    all_goals go_meet
    all_goals exact ⟨_, _, _, _, _, _, rfl, rfl, H2.out.1, H2.out.2, hbF2⟩
  case rest => as_aux_lemma =>
    obtain ⟨go, lg, cg, ho, lh, ch, rfl, rfl, hg, hh, hbU⟩ := hcut
    obtain ⟨U, hU⟩ : ∃ Z0, Z0 = wc := ⟨_, rfl⟩
    subst hU
    have hsU := hbU.size
    have hlg : lg ≤ 1000 := by rw [hg.hlen]; exact HGl.out.1
    have hlh : lh ≤ 1000 := by rw [hh.hlen]; exact HGl.out.2
    have KU : Hid (∀ w' : World, Below U.heap.size U w' → (Below U.heap.size U w' ∧ w'.cell? ⟨w.heap.size, 0, none⟩ = some (.bool na) ∧ w'.cell? ⟨w.heap.size, 1, none⟩ = some (.slice ao la ca) ∧ w'.cell? ⟨w.heap.size, 2, none⟩ = some (.slice po lp cp) ∧ w'.cell? ⟨w.heap.size + 1, 0, none⟩ = some (.bool nb) ∧ w'.cell? ⟨w.heap.size + 1, 1, none⟩ = some (.slice bo lb cb) ∧ w'.cell? ⟨w.heap.size + 1, 2, none⟩ = some (.slice qo lq cq))) := fun w' h => ⟨h, (KW.out w' (bnext hbU h)).2⟩
    have HU : Hid (RowAt U .u64 go lg cg (mag G) ∧ RowAt U .u64 ho lh ch (mag H) ∧ RatAt U na ao la ca po lp cp a ∧ RatAt U nb bo lb cb qo lq cq b ∧ Below W.heap.size W U) := ⟨hg, hh, HX.out.1.later hbU, HX.out.2.1.later hbU, hbU⟩
    clear hg hh hbU KW HC1 HC2 HX
    go_upto_region 2 with fail
    go_cut [7] (fun s7 wx => ∃ r7, s7 = .pointer (some ⟨r7, 0, none⟩) ∧ OneV U wx r7 (NA * NB))
    case first => as_aux_lemma =>
      have hzU : U.heap.size ≤ U.drew.heap.size := Nat.le_refl _
      have S0 : Step8 0 := ⟨trivial⟩
      go_region_held3 (fun w' => (Below U.heap.size U w' ∧ w'.cell? ⟨w.heap.size, 0, none⟩ = some (.bool na) ∧ w'.cell? ⟨w.heap.size, 1, none⟩ = some (.slice ao la ca) ∧ w'.cell? ⟨w.heap.size, 2, none⟩ = some (.slice po lp cp) ∧ w'.cell? ⟨w.heap.size + 1, 0, none⟩ = some (.bool nb) ∧ w'.cell? ⟨w.heap.size + 1, 1, none⟩ = some (.slice bo lb cb) ∧ w'.cell? ⟨w.heap.size + 1, 2, none⟩ = some (.slice qo lq cq)))
        (with_reducible (first | exact KU.out _ (Below.refl _ _).drew | exact KU.out _ (by assumption) | (refine KU.out _ ?_; (repeat (first | refine below_alloc ?_ (Nat.le_refl _) | refine Below.drew ?_ | refine below_set ?_ (by omega))); (first | exact hbF3 | exact hbF2 | exact hbF1 | exact Below.refl _ _))))
        (first
          | (have _t := S0; go_at_call 110; refine with_held (S := fun w9 => Below U.heap.size U w9) (by show Below _ _ _; with_reducible ((repeat (first | refine below_alloc ?_ (Nat.le_refl _) | refine Below.drew ?_ | refine below_set ?_ (by omega))); (first | exact hbF3 | exact hbF2 | exact hbF1 | exact Below.refl _ _))) (fun hS => ?_); (first | (with_reducible refine with_held (S := fun w9 => Fresh w9 U.heap.size) (Fresh.drew' (Fresh.new U)) (fun FA => ?_)) | skip); refine (over_num HU.out.2.2.1.num HU.out.1 (by omega) (by omega) hG0 HD.out.1 HE.out.1 hS).mono ?_; rintro e f1 ⟨n1, o1, l1, c1, rfl, hi, hb⟩; have H1 : Hid (IntAt f1 n1 o1 l1 c1 NA) := hi; clear hi; have hbF1 : Below U.heap.size U f1 := bnext hS hb; have hzF1 := hbF1.size; (try clear hltA); (try (have hltA := cell_lt FA.2.1; dsimp only at hltA; replace FA := Fresh.next FA hb)); clear hS hb S0; have S1 : Step8 1 := ⟨trivial⟩)
          | (have _t := S1; go_at_call 110; refine with_held (S := fun w9 => Below U.heap.size U w9) (by show Below _ _ _; with_reducible ((repeat (first | refine below_alloc ?_ (Nat.le_refl _) | refine Below.drew ?_ | refine below_set ?_ (by omega))); (first | exact hbF3 | exact hbF2 | exact hbF1 | exact Below.refl _ _))) (fun hS => ?_); refine with_held (S := fun w9 => Below f1.heap.size f1 w9) (by show Below _ _ _; with_reducible ((repeat (refine below_alloc ?_ (Nat.le_refl _))); exact Below.refl _ _)) (fun hS2 => ?_); (first | (with_reducible refine with_held (S := fun w9 => Fresh w9 f1.heap.size) (Fresh.new f1) (fun FA => ?_)) | skip); refine (over_num HU.out.2.2.2.1.num HU.out.2.1 (by omega) (by omega) hH0 HD.out.2.1 HE.out.2.1 hS).mono ?_; rintro e f2 ⟨n2, o2, l2, c2, rfl, hi, hb⟩; have H2 : Hid (IntAt f2 n1 o1 l1 c1 NA ∧ IntAt f2 n2 o2 l2 c2 NB) := ⟨H1.out.later (bnext hS2 hb), hi⟩; have hl1 : l1 ≤ 1000 := (by rw [H2.out.1.row.hlen]; exact HL.out.1); have hl2 : l2 ≤ 1000 := (by rw [H2.out.2.row.hlen]; exact HL.out.2.1); clear hi; have hbF2 : Below U.heap.size U f2 := bnext hS hb; have hzF2 := hbF2.size; (try clear hltA); (try (have hltA := cell_lt FA.2.1; dsimp only at hltA; replace FA := Fresh.next FA hb)); clear hS hb S1; clear hS2; have S2 : Step8 2 := ⟨trivial⟩)
          | (have _t := S2; go_at_call 109; refine with_held (S := fun w9 => Below U.heap.size U w9) (by show Below _ _ _; with_reducible ((repeat (first | refine below_alloc ?_ (Nat.le_refl _) | refine Below.drew ?_ | refine below_set ?_ (by omega))); (first | exact hbF3 | exact hbF2 | exact hbF1 | exact Below.refl _ _))) (fun hS => ?_); refine with_held (S := fun w9 => Below f2.heap.size f2 w9) (by show Below _ _ _; with_reducible ((repeat (refine below_alloc ?_ (Nat.le_refl _))); exact Below.refl _ _)) (fun hS2 => ?_); (first | (with_reducible refine with_held (S := fun w9 => Fresh w9 f2.heap.size) (Fresh.new f2) (fun FA => ?_)) | skip); refine (rtimes2_any n1 n2 o1 o2 l1 c1 l2 c2 NA NB _ (H2.out.1.later hS2) (H2.out.2.later hS2) (by omega) (by omega)).mono ?_; rintro e f3 ⟨n3, o3, l3, c3, rfl, hs, ho3, hb⟩; have HO : Hid (n3 = sgB (NA * NB) ∧ Own _ f3 .u64 59 o3 l3 c3 (mag (NA * NB).natAbs) ∧ U.heap.size ≤ _) := ⟨hs, ho3, hS.size⟩; clear hs ho3; have hbF3 : Below U.heap.size U f3 := bnext hS hb; have hzF3 := hbF3.size; (try clear hltA); (try (have hltA := cell_lt FA.2.1; dsimp only at hltA; replace FA := Fresh.next FA hb)); (try (obtain ⟨a5, a3, a4⟩ := FA)); clear hS hb S2; clear hS2; skip))
      all_goals go_wp2
      all_goals go_meet
      all_goals refine ⟨_, rfl, ?_⟩
      all_goals (first
        | (with_reducible exact ov_a HO hbF3)
        | ((with_reducible refine ov_b HO hbF3 ?_ ?_ ?_) <;> (first | (with_reducible exact fresh_mk a5 a3 a4) | (with_reducible exact hltA) | omega)))
    case rest => as_aux_lemma =>
      obtain ⟨r7, rfl, n7, o7, l7, c7, hbx7, ⟨hr7, hr7U⟩, hs7, ho7, hbV⟩ := hcut
      obtain ⟨Y, hY⟩ : ∃ Z0, Z0 = wc := ⟨_, rfl⟩
      subst hY
      have hsY := hbV.size
      have KY : Hid (∀ w' : World, Below Y.heap.size Y w' → (Below Y.heap.size Y w' ∧ w'.cell? ⟨w.heap.size, 0, none⟩ = some (.bool na) ∧ w'.cell? ⟨w.heap.size, 1, none⟩ = some (.slice ao la ca) ∧ w'.cell? ⟨w.heap.size, 2, none⟩ = some (.slice po lp cp) ∧ w'.cell? ⟨w.heap.size + 1, 0, none⟩ = some (.bool nb) ∧ w'.cell? ⟨w.heap.size + 1, 1, none⟩ = some (.slice bo lb cb) ∧ w'.cell? ⟨w.heap.size + 1, 2, none⟩ = some (.slice qo lq cq))) := fun w' h => ⟨h, (KU.out w' (bnext hbV h)).2⟩
      have HY : Hid (RowAt Y .u64 go lg cg (mag G) ∧ RowAt Y .u64 ho lh ch (mag H) ∧ RatAt Y na ao la ca po lp cp a ∧ RatAt Y nb bo lb cb qo lq cq b ∧ Below W.heap.size W Y) := ⟨HU.out.1.later hbV, HU.out.2.1.later hbV, HU.out.2.2.1.later hbV, HU.out.2.2.2.1.later hbV, bnext HU.out.2.2.2.2 hbV⟩
      have H7 : Hid (Boxed Y r7 n7 o7 l7 c7 ∧ n7 = sgB (NA * NB) ∧ Own U.heap.size Y .u64 59 o7 l7 c7 (mag (NA * NB).natAbs)) := ⟨hbx7, hs7, ho7⟩
      clear hbx7 hs7 ho7 hbV KU HU
      have hfld := run_mag
      go_upto_region 3 with fail
      go_cut [8] (fun s8 wx => ∃ r8, s8 = .pointer (some ⟨r8, 0, none⟩) ∧ OneV Y wx r8 (DA * (db : Int)))
      case first => as_aux_lemma =>
        have hzU : Y.heap.size ≤ Y.drew.heap.size := Nat.le_refl _
        have S0 : Step8 0 := ⟨trivial⟩
        go_region_held3 (fun w' => (Below Y.heap.size Y w' ∧ w'.cell? ⟨w.heap.size, 0, none⟩ = some (.bool na) ∧ w'.cell? ⟨w.heap.size, 1, none⟩ = some (.slice ao la ca) ∧ w'.cell? ⟨w.heap.size, 2, none⟩ = some (.slice po lp cp) ∧ w'.cell? ⟨w.heap.size + 1, 0, none⟩ = some (.bool nb) ∧ w'.cell? ⟨w.heap.size + 1, 1, none⟩ = some (.slice bo lb cb) ∧ w'.cell? ⟨w.heap.size + 1, 2, none⟩ = some (.slice qo lq cq)))
          (with_reducible (first | exact KY.out _ (Below.refl _ _).drew | exact KY.out _ (by assumption) | (refine KY.out _ ?_; (repeat (first | refine below_alloc ?_ (Nat.le_refl _) | refine Below.drew ?_ | refine below_set ?_ (by omega))); (first | exact hbF3 | exact hbF2 | exact hbF1 | exact Below.refl _ _))))
          (first
            | (have _t := S0; go_at_call 110; refine with_held (S := fun w9 => Below Y.heap.size Y w9) (by show Below _ _ _; with_reducible ((repeat (first | refine below_alloc ?_ (Nat.le_refl _) | refine Below.drew ?_ | refine below_set ?_ (by omega))); (first | exact hbF3 | exact hbF2 | exact hbF1 | exact Below.refl _ _))) (fun hS => ?_); (first | (with_reducible refine with_held (S := fun w9 => Fresh w9 Y.heap.size) (Fresh.drew' (Fresh.new Y)) (fun FA => ?_)) | skip); refine (over_num (row_int HY.out.2.2.1.den) HY.out.2.1 (by omega) (by omega) hH0 HD.out.2.2.1 HE.out.2.2.1 hS).mono ?_; rintro e f1 ⟨n1, o1, l1, c1, rfl, hi, hb⟩; have H1 : Hid (IntAt f1 n1 o1 l1 c1 DA) := hi; clear hi; have hbF1 : Below Y.heap.size Y f1 := bnext hS hb; have hzF1 := hbF1.size; (try clear hltA); (try (have hltA := cell_lt FA.2.1; dsimp only at hltA; replace FA := Fresh.next FA hb)); clear hS hb S0; have S1 : Step8 1 := ⟨trivial⟩)
            | (have _t := S1; go_at_call 110; refine with_held (S := fun w9 => Below Y.heap.size Y w9) (by show Below _ _ _; with_reducible ((repeat (first | refine below_alloc ?_ (Nat.le_refl _) | refine Below.drew ?_ | refine below_set ?_ (by omega))); (first | exact hbF3 | exact hbF2 | exact hbF1 | exact Below.refl _ _))) (fun hS => ?_); refine with_held (S := fun w9 => Below f1.heap.size f1 w9) (by show Below _ _ _; with_reducible ((repeat (refine below_alloc ?_ (Nat.le_refl _))); exact Below.refl _ _)) (fun hS2 => ?_); (first | (with_reducible refine with_held (S := fun w9 => Fresh w9 f1.heap.size) (Fresh.new f1) (fun FA => ?_)) | skip); refine (over_num (row_int HY.out.2.2.2.1.den) HY.out.1 (by omega) (by omega) hG0 HD.out.2.2.2 HE.out.2.2.2.1 hS).mono ?_; rintro e f2 ⟨n2, o2, l2, c2, rfl, hi, hb⟩; have H2 : Hid (IntAt f2 n1 o1 l1 c1 DA ∧ RowAt f2 .u64 o2 l2 c2 (mag db)) := ⟨H1.out.later (bnext hS2 hb), (by have := hi.row; rw [HE.out.2.2.2.2, Int.natAbs_natCast] at this; exact this)⟩; have hl1 : l1 ≤ 1000 := (by rw [H2.out.1.row.hlen]; exact HL.out.2.2.1); have hl2 : l2 ≤ 1000 := (by rw [hi.row.hlen]; exact HL.out.2.2.2); clear hi; have hbF2 : Below Y.heap.size Y f2 := bnext hS hb; have hzF2 := hbF2.size; (try clear hltA); (try (have hltA := cell_lt FA.2.1; dsimp only at hltA; replace FA := Fresh.next FA hb)); clear hS hb S1; clear hS2; have S2 : Step8 2 := ⟨trivial⟩)
            | (have _t := S2; go_at_call 108; refine with_held (S := fun w9 => Below Y.heap.size Y w9) (by show Below _ _ _; with_reducible ((repeat (first | refine below_alloc ?_ (Nat.le_refl _) | refine Below.drew ?_ | refine below_set ?_ (by omega))); (first | exact hbF3 | exact hbF2 | exact hbF1 | exact Below.refl _ _))) (fun hS => ?_); refine with_held (S := fun w9 => Below f2.heap.size f2 w9) (by show Below _ _ _; with_reducible ((repeat (refine below_alloc ?_ (Nat.le_refl _))); exact Below.refl _ _)) (fun hS2 => ?_); (first | (with_reducible refine with_held (S := fun w9 => Fresh w9 f2.heap.size) (Fresh.new f2) (fun FA => ?_)) | skip); refine (timesNat_any n1 o1 o2 l1 c1 l2 c2 DA db _ (H2.out.1.later hS2) (H2.out.2.later hS2) (by omega) (by omega)).mono ?_; rintro e f3 ⟨n3, o3, l3, c3, rfl, hs, ho3, hb⟩; have HO : Hid (n3 = sgB (DA * (db : Int)) ∧ Own _ f3 .u64 59 o3 l3 c3 (mag (DA * (db : Int)).natAbs) ∧ Y.heap.size ≤ _) := ⟨hs, ho3, hS.size⟩; clear hs ho3; have hbF3 : Below Y.heap.size Y f3 := bnext hS hb; have hzF3 := hbF3.size; (try clear hltA); (try (have hltA := cell_lt FA.2.1; dsimp only at hltA; replace FA := Fresh.next FA hb)); (try (obtain ⟨a5, a3, a4⟩ := FA)); clear hS hb S2; clear hS2; skip))
        all_goals go_wp2
        all_goals go_meet
        all_goals refine ⟨_, rfl, ?_⟩
        all_goals (first
          | (with_reducible exact ov_a HO hbF3)
          | ((with_reducible refine ov_b HO hbF3 ?_ ?_ ?_) <;> (first | (with_reducible exact fresh_mk a5 a3 a4) | (with_reducible exact hltA) | omega)))
      case rest => as_aux_lemma =>
        obtain ⟨r8, rfl, n8, o8, l8, c8, hbx8, ⟨hr8, hr8Y⟩, hs8, ho8, hbV⟩ := hcut
        obtain ⟨Z, hZ⟩ : ∃ Z0, Z0 = wc := ⟨_, rfl⟩
        subst hZ
        have hsZ := hbV.size
        obtain ⟨p0, p1⟩ := H7.out.1.later hbV hr7
        obtain ⟨q0, q1⟩ := hbx8
        obtain ⟨g5, g2, g3, g4⟩ := HF.out.1.later (bnext HY.out.2.2.2.2 hbV) (by omega)
        have H8 : Hid (n8 = sgB (DA * (db : Int)) ∧ Own Y.heap.size Z .u64 59 o8 l8 c8 (mag (DA * (db : Int)).natAbs) ∧ Below Y.heap.size Y Z) := ⟨hs8, ho8, hbV⟩
        have hn78 : r7 ≠ r8 := by omega
        clear hs8 ho8 hbV
        go_wp2
        have hden : mag (DA * (db : Int)).natAbs = mag (a * b).den := by rw [← HEnd.out.2, Int.natAbs_natCast]
        have hO7 : Own U.heap.size Z .u64 59 o7 l7 c7 (mag (a * b).num.natAbs) := by rw [HEnd.out.1]; exact H7.out.2.2.later H8.out.2.2
        have hO8 : Own Y.heap.size Z .u64 59 o8 l8 c8 (mag (a * b).den) := by rw [← hden]; exact H8.out.2.1
        have hsW := HY.out.2.2.2.2.size
        exact bodyPost_ret (v := .agg #[.bool n7, .slice o7 l7 c7, .slice o8 l8 c8]) (by simp [results, Tryz.results75, go_sem, g2, g3, g4]) rfl
          ⟨_, _, _, _, _, _, _, rfl, by rw [HEnd.out.1]; exact H7.out.2.1, (hO7.store3 (by omega) _ _ _).mono (by omega), (hO8.store3 (by omega) _ _ _).mono (by omega), Parted.made H7.out.2.2 hO8 (Nat.le_refl _), below_store3 (bnext HF.out.2 (bnext HY.out.2.2.2.2 H8.out.2.2)) (by omega) _ _ _⟩
end Go.Proofs.YtiiefpnkpfliiaaGreatDoor
