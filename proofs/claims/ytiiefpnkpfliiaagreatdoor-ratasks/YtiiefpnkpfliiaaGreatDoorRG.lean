/-
  Walks: what is a rational; is it long, is it 0; are two the same.
-/
import Derived.Test.YtiiefpnkpfliiaaGreatDoorRFa
import Derived.Test.YtiiefpnkpfliiaaGreatDoorHH
namespace Go.Proofs.YtiiefpnkpfliiaaGreatDoor
open Go.RowKit
set_option linter.unusedVariables false
set_option linter.unusedSimpArgs false

/-- a rational handed in -/
structure ROne1 (w W : World) (na : Bool) (ao po : Option Addr) (la ca lp cp : Nat) : Prop where
  eq : W = w.alloc (.cells #[.bool na, .slice ao la ca, .slice po lp cp] 28)
  below : Below w.heap.size w W
  size : W.heap.size = w.heap.size + 1
  a : Boxed3 W w.heap.size na ao la ca po lp cp
theorem ROne1.mk' (w : World) (na : Bool) (ao po : Option Addr) (la ca lp cp : Nat) : ∃ W, ROne1 w W na ao po la ca lp cp :=
  ⟨_, rfl, (Below.refl _ _).alloc (Nat.le_refl _) _, by simp, ⟨by simp [go_sem], by simp [go_sem], by simp [go_sem]⟩⟩
/-- a rational handed in, a rational to come -/
structure ROne2 (w W : World) (na : Bool) (ao po : Option Addr) (la ca lp cp : Nat) : Prop where
  eq : W = (w.alloc (.cells #[.bool na, .slice ao la ca, .slice po lp cp] 28)).alloc (.cells #[.bool false, .slice none 0 0, .slice none 0 0] 28)
  below : Below w.heap.size w W
  size : W.heap.size = w.heap.size + 2
  a : Boxed3 W w.heap.size na ao la ca po lp cp
  r : Fresh3 W (w.heap.size + 1)
theorem ROne2.mk' (w : World) (na : Bool) (ao po : Option Addr) (la ca lp cp : Nat) : ∃ W, ROne2 w W na ao po la ca lp cp :=
  ⟨_, rfl, ((Below.refl _ _).alloc (Nat.le_refl _) _).alloc (by simp) _, by simp, ⟨by simp [go_sem], by simp [go_sem], by simp [go_sem]⟩, ⟨fun j => by simp [go_sem], by simp [go_sem], by simp [go_sem], by simp [go_sem]⟩⟩
/-- two rationals handed in -/
structure RTwo2 (w W : World) (na nb : Bool) (ao po bo qo : Option Addr) (la ca lp cp lb cb lq cq : Nat) : Prop where
  eq : W = (w.alloc (.cells #[.bool na, .slice ao la ca, .slice po lp cp] 28)).alloc (.cells #[.bool nb, .slice bo lb cb, .slice qo lq cq] 28)
  below : Below w.heap.size w W
  size : W.heap.size = w.heap.size + 2
  a : Boxed3 W w.heap.size na ao la ca po lp cp
  b : Boxed3 W (w.heap.size + 1) nb bo lb cb qo lq cq
theorem RTwo2.mk' (w : World) (na nb : Bool) (ao po bo qo : Option Addr) (la ca lp cp lb cb lq cq : Nat) : ∃ W, RTwo2 w W na nb ao po bo qo la ca lp cp lb cb lq cq :=
  ⟨_, rfl, ((Below.refl _ _).alloc (Nat.le_refl _) _).alloc (by simp) _, by simp, ⟨by simp [go_sem], by simp [go_sem], by simp [go_sem]⟩, ⟨by simp [go_sem], by simp [go_sem], by simp [go_sem]⟩⟩

theorem RatAt.pos {w : World} {neg : Bool} {ao bo : Option Addr} {l c lb cb : Nat} {r : Rat} (h : RatAt w neg ao l c bo lb cb r) : 0 < lb := by
  rw [h.den.hlen]; exact mag_len_pos.2 r.den_pos

set_option maxRecDepth 100000 in
set_option maxHeartbeats 1000000 in
theorem rcheck_good (na : Bool) (ao po : Option Addr) (la ca lp cp : Nat) (a : Rat) (w : World) (hx : RatAt w na ao la ca po lp cp a) (hl : la ≤ 1073741824) (hl' : lp ≤ 1073741824) (hT : TabAt 0 Lib.deBruijn64tab w) :
    Calls Tryz.prog 10 #[.agg #[.bool na, .slice ao la ca, .slice po lp cp]] w fun e w' => e = .returned (.int .i64 0) ∧ Below w.heap.size w w' := by
  obtain ⟨W, hW⟩ := ROne1.mk' w na ao po la ca lp cp
  have hsz := hW.size
  have HX : Hid (RatAt W na ao la ca po lp cp a ∧ TabAt 0 Lib.deBruijn64tab W) := ⟨hx.later hW.below, tab_later hT hW.below⟩
  have hp : ((lp : Int) == 0) = false := by have := hx.pos; simp; omega
  have HG : Hid (decide (Nat.gcd a.num.natAbs a.den = 1) = true) := decide_eq_true a.reduced
  clear hx hT
  go_enter Tryz.func10, Tryz.ntmps10
  go_wp2_with (first
    | (go_at_call 51; have _t := hb1; refine (check_at false po lp cp _ _ (HX.out.1.den.later hb1) (by omega) 0 (row_int HX.out.1.den).may).mono ?_; rintro e w2 ⟨rfl, hb2⟩; clear p0 p1 p2; obtain ⟨p0, p1, p2⟩ := hW.a.later (bnext hb1 hb2) (by omega))
    | (go_at_call 51; rw [← hW.eq]; refine (check_at na ao la ca _ _ HX.out.1.num.row (by omega) 0 HX.out.1.num.may).mono ?_; rintro e w1 ⟨rfl, hb1⟩; obtain ⟨p0, p1, p2⟩ := hW.a.later hb1 (by omega))
    | (go_at_call 52; refine (apart_any ao po la ca lp cp _ _ _ (HX.out.1.num.row.later (bnext hb1 hb2)) (HX.out.1.den.later (bnext hb1 hb2)) a.den_pos hl hl' (tab_later HX.out.2 (bnext hb1 hb2)) true HG.out).mono ?_; rintro e w3 ⟨rfl, hb3⟩))
  go_ret
  exact ⟨rfl, bnext hW.below (bnext (bnext hb1 hb2) hb3)⟩

set_option maxRecDepth 100000 in
set_option maxHeartbeats 1000000 in
theorem checkBoth_good (na nb : Bool) (ao po bo qo : Option Addr) (la ca lp cp lb cb lq cq : Nat) (a b : Rat) (w : World) (hx : RatAt w na ao la ca po lp cp a) (hy : RatAt w nb bo lb cb qo lq cq b) (hl : la ≤ 1073741824) (hl' : lp ≤ 1073741824) (hm : lb ≤ 1073741824) (hm' : lq ≤ 1073741824) (hT : TabAt 0 Lib.deBruijn64tab w) :
    Calls Tryz.prog 73 #[.agg #[.bool na, .slice ao la ca, .slice po lp cp], .agg #[.bool nb, .slice bo lb cb, .slice qo lq cq]] w fun e w' => e = .returned (.int .i64 0) ∧ Below w.heap.size w w' := by
  obtain ⟨W, hW⟩ := RTwo2.mk' w na nb ao po bo qo la ca lp cp lb cb lq cq
  have hsz := hW.size
  have HX : Hid (RatAt W na ao la ca po lp cp a ∧ RatAt W nb bo lb cb qo lq cq b ∧ TabAt 0 Lib.deBruijn64tab W) := ⟨hx.later hW.below, hy.later hW.below, tab_later hT hW.below⟩
  clear hx hy hT
  go_enter Tryz.func73, Tryz.ntmps73
  go_wp2_with (first
    | (go_at_call 10; have _t := hb1; refine (rcheck_good nb bo qo lb cb lq cq b _ (HX.out.2.1.later hb1) hm hm' (tab_later HX.out.2.2 hb1)).mono ?_; rintro e w2 ⟨rfl, hb2⟩)
    | (go_at_call 10; rw [← hW.eq]; refine (rcheck_good na ao po la ca lp cp a _ HX.out.1 hl hl' HX.out.2.2).mono ?_; rintro e w1 ⟨rfl, hb1⟩; obtain ⟨p0, p1, p2⟩ := hW.b.later hb1 (by omega)))
  go_ret
  exact ⟨rfl, bnext hW.below (bnext hb1 hb2)⟩

/-- numbers that are no rational: a limb on top is 0, a sign without a number, no denominator, or a common divisor -/
def mayR (neg : Bool) (zs ds : List Int) : Bool := mayB neg zs && (mayB false ds && (decide (0 < ds.length) && decide (Nat.gcd (val 18446744073709551616 zs).natAbs (val 18446744073709551616 ds).natAbs = 1)))
theorem rat_of_may {w : World} {neg : Bool} {ao po : Option Addr} {la ca lp cp : Nat} {zs ds : List Int} (hx : RowAt w .u64 ao la ca zs) (wx : Wd 18446744073709551616 zs) (hy : RowAt w .u64 po lp cp ds) (wy : Wd 18446744073709551616 ds) (h : mayR neg zs ds = true) : ∃ r : Rat, RatAt w neg ao la ca po lp cp r ∧ zs = mag r.num.natAbs ∧ ds = mag r.den := by
  unfold mayR at h
  simp only [Bool.and_eq_true, decide_eq_true_eq] at h
  obtain ⟨h1, h2, h3, h4⟩ := h
  obtain ⟨v, hv, ev⟩ := int_of_may hx wx h1
  obtain ⟨d, hd, ed⟩ := int_of_may hy wy h2
  have hdn : d = (d.natAbs : Int) := by
    have hs := hd.sg
    have h5 : ¬ d < 0 := of_decide_eq_false (by simpa [sgB] using hs.symm)
    omega
  have e1 : (val 18446744073709551616 zs).natAbs = v.natAbs := by rw [ev, mag_val, Int.natAbs_natCast]
  have e2 : (val 18446744073709551616 ds).natAbs = d.natAbs := by rw [ed, mag_val, Int.natAbs_natCast]
  rw [e1, e2] at h4
  have h0 : d.natAbs ≠ 0 := fun e => by rw [ed, e] at h3; exact absurd h3 (by decide)
  exact ⟨⟨v, d.natAbs, h0, h4⟩, ⟨hv, hd.row⟩, ev, ed⟩

theorem nmay_eq (zs : List Int) : nmayB zs = mayB false zs := rfl
set_option maxRecDepth 100000 in
set_option maxHeartbeats 1000000 in
theorem qmay_any (na : Bool) (ao po : Option Addr) (la ca lp cp : Nat) (zs ds : List Int) (w : World) (hx : RowAt w .u64 ao la ca zs) (wx : Wd 18446744073709551616 zs) (hy : RowAt w .u64 po lp cp ds) (wy : Wd 18446744073709551616 ds) (hl : la ≤ 16777216) (hl' : lp ≤ 16777216) (c : Bool) (hc : mayR na zs ds = c) :
    Calls Tryz.prog 7 #[.agg #[.bool na, .slice ao la ca, .slice po lp cp]] w fun e w' => e = .returned (.bool c) ∧ Below w.heap.size w w' := by
  obtain ⟨W, hW⟩ := ROne1.mk' w na ao po la ca lp cp
  have hsz := hW.size
  have HX : Hid (RowAt W .u64 ao la ca zs ∧ RowAt W .u64 po lp cp ds) := ⟨hx.later hW.below, hy.later hW.below⟩
  have HC : Hid (mayR na zs ds = c) := hc
  have HL : Hid (lp = ds.length) := hy.hlen
  cases h1 : mayB na zs
  · obtain rfl : c = false := by rw [← HC.out]; simp [mayR, h1]
    have H1 : Hid (mayB na zs = false) := h1
    clear hx hy hc h1
    go_enter Tryz.func7, Tryz.ntmps7
    go_wp2_with (go_at_call 34; rw [← hW.eq]; refine (may_at na ao la ca zs _ HX.out.1 (by omega) false H1.out).mono ?_; rintro e w1 ⟨rfl, hb1⟩)
    go_ret
    exact ⟨rfl, bnext hW.below hb1⟩
  · have H1 : Hid (mayB na zs = true) := h1
    cases h2 : mayB false ds
    · obtain rfl : c = false := by rw [← HC.out]; simp [mayR, h2]
      have H2 : Hid (nmayB ds = false) := (nmay_eq ds).trans h2
      have hcon : ∀ X, RowAt X .u64 po lp cp ds → Calls Tryz.prog 35 #[.slice po lp cp] X fun e w' => e = .returned (.bool false) ∧ w' = X := fun X h => (nmay_any po lp cp ds X h (by omega)).mono fun e w' k => by rw [H2.out] at k; exact k
      clear hx hy hc h1 h2
      go_enter Tryz.func7, Tryz.ntmps7
      go_wp2_with (first
        | (go_at_call 34; rw [← hW.eq]; refine (may_at na ao la ca zs _ HX.out.1 (by omega) true H1.out).mono ?_; rintro e w1 ⟨rfl, hb1⟩; obtain ⟨p0, p1, p2⟩ := hW.a.later hb1 (by omega))
        | (go_at_call 35; refine (hcon _ (HX.out.2.later hb1)).mono ?_; rintro e w2 ⟨rfl, hw2⟩; replace hw2 := hw2.symm; subst hw2))
      go_ret
      exact ⟨rfl, bnext hW.below hb1⟩
    · have H2 : Hid (nmayB ds = true) := (nmay_eq ds).trans h2
      have hcon : ∀ X, RowAt X .u64 po lp cp ds → Calls Tryz.prog 35 #[.slice po lp cp] X fun e w' => e = .returned (.bool true) ∧ w' = X := fun X h => (nmay_any po lp cp ds X h (by omega)).mono fun e w' k => by rw [H2.out] at k; exact k
      by_cases h3 : lp = 0
      · obtain rfl : c = false := by rw [← HC.out]; have : ds.length = 0 := by have := HL.out; omega
                                     simp [mayR, this]
        subst h3
        clear hx hy hc h1 h2
        go_enter Tryz.func7, Tryz.ntmps7
        go_wp2_with (first
          | (go_at_call 34; rw [← hW.eq]; refine (may_at na ao la ca zs _ HX.out.1 (by omega) true H1.out).mono ?_; rintro e w1 ⟨rfl, hb1⟩; obtain ⟨p0, p1, p2⟩ := hW.a.later hb1 (by omega))
          | (go_at_call 35; refine (hcon _ (HX.out.2.later hb1)).mono ?_; rintro e w2 ⟨rfl, hw2⟩; replace hw2 := hw2.symm; subst hw2))
        go_ret
        exact ⟨rfl, bnext hW.below hb1⟩
      · have h3' : ((lp : Int) == 0) = false := by simp; omega
        obtain ⟨v, hv, ev⟩ := int_of_may HX.out.1 wx h1
        obtain ⟨d, hd, ed⟩ := int_of_may HX.out.2 wy h2
        have HG : Hid (decide (Nat.gcd v.natAbs d.natAbs = 1) = c) := by
          show _ = _
          rw [← HC.out]; unfold mayR
          rw [h1, h2, decide_eq_true (show 0 < ds.length by have := HL.out; omega), Bool.true_and, Bool.true_and, Bool.true_and, ev, ed, mag_val, mag_val, Int.natAbs_natCast, Int.natAbs_natCast]
        have HR : Hid (RowAt W .u64 ao la ca (mag v.natAbs) ∧ RowAt W .u64 po lp cp (mag d.natAbs)) := ⟨hv.row, hd.row⟩
        obtain ⟨gn, hgn⟩ : ∃ gn, Nat.gcd v.natAbs d.natAbs = gn := ⟨_, rfl⟩
        have HGn : Hid (decide (gn = 1) = c) := by show _ = _; rw [← hgn]; exact HG.out
        have hgcd : ∀ X, Below W.heap.size W X → Calls Tryz.prog 48 #[.slice ao la ca, .slice po lp cp] X fun e w' => ∃ go lg cg, e = .returned (.slice go lg cg) ∧ RowAt w' .u64 go lg cg (mag gn) ∧ Below X.heap.size X w' := fun X h => (ngcd_any ao po la ca lp cp v.natAbs d.natAbs X (HR.out.1.later h) (HR.out.2.later h) hl hl').mono fun e w' ⟨go, lg, cg, k1, k2, _, k3⟩ => ⟨go, lg, cg, k1, hgn ▸ k2, k3⟩
        clear hx hy hc h1 h2 hv hd ev ed hgn HG
        have key : ∀ (go : Option Addr) (lg cg : Nat) (X : World), RowAt X .u64 go lg cg (mag gn) → (((lg : Int) == 1) = false ∧ c = false) ∨ ∃ g off x, lg = 1 ∧ go = some ⟨g, off, none⟩ ∧ X.cell? ⟨g, off, none⟩ = some (.int .u64 x) ∧ (x == 1) = c := fun go lg cg X h => by
          by_cases e : lg = 1
          · subst e
            obtain ⟨g, off, rfl, _, hcl⟩ := h.get (by decide)
            refine Or.inr ⟨g, off, _, rfl, rfl, hcl 0 (by decide), ?_⟩
            rw [one_limb h.hlen.symm, ← HGn.out]
            by_cases e2 : gn = 1
            · subst e2; rfl
            · rw [decide_eq_false e2]; simp; omega
          · refine Or.inl ⟨by simp; omega, ?_⟩
            rw [← HGn.out]
            refine decide_eq_false fun e2 => e ?_
            rw [h.hlen, e2, one_word]; rfl
        go_enter Tryz.func7, Tryz.ntmps7
        go_upto_region 4 with (first
          | (go_at_call 34; rw [← hW.eq]; refine (may_at na ao la ca zs _ HX.out.1 (by omega) true H1.out).mono ?_; rintro e w1 ⟨rfl, hb1⟩; obtain ⟨p0, p1, p2⟩ := hW.a.later hb1 (by omega))
          | (go_at_call 35; refine (hcon _ (HX.out.2.later hb1)).mono ?_; rintro e w2 ⟨rfl, hw2⟩; replace hw2 := hw2.symm; subst hw2)
          | (go_at_call 48; refine (hgcd _ hb1).mono ?_; rintro e w3 ⟨go, lg, cg, rfl, hr3, hb3⟩))
        rcases key go lg cg _ hr3 with ⟨k1, k2⟩ | ⟨g, off, x, rfl, rfl, k1, k2⟩
        · subst k2
          clear hr3 p0 p1 p2
          go_wp2
          go_ret
          exact ⟨rfl, bnext hW.below (bnext hb1 hb3)⟩
        · have K2 : Hid ((x == 1) = c) := k2
          clear hr3 p0 p1 p2 k2
          go_wp2
          go_ret
          exact ⟨ret_bool K2.out, bnext hW.below (bnext hb1 hb3)⟩

set_option maxRecDepth 100000 in
set_option maxHeartbeats 1000000 in
theorem longRat_any (na : Bool) (ao po : Option Addr) (la ca lp cp : Nat) (n : Int) (w : World) (c : Bool) (hc : (decide (n < (la : Int)) || decide (n < (lp : Int))) = c) :
    Calls Tryz.prog 47 #[.agg #[.bool na, .slice ao la ca, .slice po lp cp], .int .i64 n] w fun e w' => e = .returned (.bool c) ∧ Below w.heap.size w w' := by
  obtain ⟨W, hW⟩ := ROne1.mk' w na ao po la ca lp cp
  have hsz := hW.size
  by_cases h1 : n < (la : Int)
  · obtain rfl : c = true := by rw [← hc, decide_eq_true h1]; rfl
    have hcon : ∀ X, Calls Tryz.prog 94 #[.agg #[.bool na, .slice ao la ca], .int .i64 n] X fun e w' => e = .returned (.bool true) ∧ Below X.heap.size X w' := fun X => (long_any na ao la ca n X).mono fun e w' h => by rw [decide_eq_true h1] at h; exact h
    clear hc h1
    go_enter Tryz.func47, Tryz.ntmps47
    go_wp2_with (go_at_call 94; rw [← hW.eq]; refine (hcon _).mono ?_; rintro e w1 ⟨rfl, hb1⟩)
    go_ret
    exact ⟨rfl, bnext hW.below hb1⟩
  · have hcon : ∀ X, Calls Tryz.prog 94 #[.agg #[.bool na, .slice ao la ca], .int .i64 n] X fun e w' => e = .returned (.bool false) ∧ Below X.heap.size X w' := fun X => (long_any na ao la ca n X).mono fun e w' h => by rw [decide_eq_false h1] at h; exact h
    have HC : Hid (decide (n < (lp : Int)) = c) := by show _ = _; rw [← hc, decide_eq_false h1]; rfl
    clear hc h1
    go_enter Tryz.func47, Tryz.ntmps47
    go_wp2_with (go_at_call 94; rw [← hW.eq]; refine (hcon _).mono ?_; rintro e w1 ⟨rfl, hb1⟩; obtain ⟨p0, p1, p2⟩ := hW.a.later hb1 (by omega))
    go_ret
    exact ⟨ret_bool HC.out, bnext hW.below hb1⟩

set_option maxRecDepth 100000 in
set_option maxHeartbeats 1000000 in
theorem qzero_any (na : Bool) (ao po : Option Addr) (la ca lp cp : Nat) (w : World) (c : Bool) (hc : ((la : Int) == 0) = c) :
    Calls Tryz.prog 39 #[.agg #[.bool na, .slice ao la ca, .slice po lp cp]] w fun e w' => e = .returned (.bool c) ∧ Below w.heap.size w w' := by
  obtain ⟨W, hW⟩ := ROne1.mk' w na ao po la ca lp cp
  have HB : Hid (Below w.heap.size w (w.alloc (.cells #[.bool na, .slice ao la ca, .slice po lp cp] 28))) := hW.eq ▸ hW.below
  have HC : Hid (((la : Int) == 0) = c) := hc
  clear hW hc
  go_enter Tryz.func39, Tryz.ntmps39
  go_wp2
  go_ret
  exact ⟨ret_bool HC.out, HB.out⟩

set_option maxRecDepth 100000 in
set_option maxHeartbeats 1000000 in
theorem eqrat_same (na nb : Bool) (ao po bo qo : Option Addr) (la ca lp cp lb cb lq cq : Nat) (a : Rat) (w : World) (hx : RatAt w na ao la ca po lp cp a) (hy : RatAt w nb bo lb cb qo lq cq a) (hl : la ≤ 1073741824) (hl' : lp ≤ 1073741824) :
    Calls Tryz.prog 14 #[.agg #[.bool na, .slice ao la ca, .slice po lp cp], .agg #[.bool nb, .slice bo lb cb, .slice qo lq cq]] w fun e w' => e = .returned (.bool true) ∧ Below w.heap.size w w' := by
  obtain ⟨W, hW⟩ := RTwo2.mk' w na nb ao po bo qo la ca lp cp lb cb lq cq
  have hsz := hW.size
  have HX : Hid (RatAt W na ao la ca po lp cp a ∧ RatAt W nb bo lb cb qo lq cq a) := ⟨hx.later hW.below, hy.later hW.below⟩
  have hcon : ∀ X, Below W.heap.size W X → Calls Tryz.prog 53 #[.slice po lp cp, .slice qo lq cq] X fun e w' => e = .returned (.bool true) ∧ Below X.heap.size X w' := fun X h => (eqwords_any po qo lp cp lq cq (mag a.den) (mag a.den) X (HX.out.1.den.later h) (HX.out.2.den.later h) (by omega)).mono fun e w' k => by rw [decide_eq_true rfl] at k; exact k
  clear hx hy
  go_enter Tryz.func14, Tryz.ntmps14
  go_wp2_with (first
    | (go_at_call 11; rw [← hW.eq]; refine (eqint_at na nb ao bo la ca lb cb a.num a.num _ HX.out.1.num HX.out.2.num (by omega) true (decide_eq_true rfl)).mono ?_; rintro e w1 ⟨rfl, hb1⟩; obtain ⟨p0, p1, p2⟩ := hW.a.later hb1 (by omega); obtain ⟨q0, q1, q2⟩ := hW.b.later hb1 (by omega))
    | (go_at_call 53; refine (hcon _ hb1).mono ?_; rintro e w2 ⟨rfl, hb2⟩))
  go_ret
  exact ⟨rfl, bnext hW.below (bnext hb1 hb2)⟩
end Go.Proofs.YtiiefpnkpfliiaaGreatDoor
