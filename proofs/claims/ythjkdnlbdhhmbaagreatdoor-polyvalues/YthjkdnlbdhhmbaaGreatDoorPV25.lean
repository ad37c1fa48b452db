/-
  A pack of walks and facts: RG, RH, RK, IJ, RPa, RZ, TB.
-/
import Derived.Test.YthjkdnlbdhhmbaaGreatDoorPV24
import Derived.Deep.DeepCutAuto
import Derived.Deep.RegionHeld3
import Derived.Laws.BytesArg
import Derived.Shelf.Strconv.Itoa1
import Derived.Shelf.Strconv.Itoa2
import Derived.Lib.ItoaMem
import Derived.Lib.AppendIntMem
import Derived.Shelf.Strings.Repeat
import Derived.Lib.AppendStr
import Derived.Laws.Strings
import Derived.Shelf.Strings.Prefix
import Derived.Shelf.Strings.Search1
import Derived.Lib.IndexLaws
set_option maxRecDepth 100000
set_option maxHeartbeats 40000000
set_option linter.unusedVariables false
set_option linter.unusedSimpArgs false
namespace Go.Proofs.YthjkdnlbdhhmbaaGreatDoor
open Go.RowKit
structure ROne1 (w W : World) (na : Bool) (ao po : Option Addr) (la ca lp cp : Nat) : Prop where
  eq : W = w.alloc (.cells #[.bool na, .slice ao la ca, .slice po lp cp] 30)
  below : Below w.heap.size w W
  size : W.heap.size = w.heap.size + 1
  a : Boxed3 W w.heap.size na ao la ca po lp cp
theorem ROne1.mk' (w : World) (na : Bool) (ao po : Option Addr) (la ca lp cp : Nat) : ∃ W, ROne1 w W na ao po la ca lp cp :=
  ⟨_, rfl, (Below.refl _ _).alloc (Nat.le_refl _) _, by simp, ⟨by simp [go_sem], by simp [go_sem], by simp [go_sem]⟩⟩
structure ROne2 (w W : World) (na : Bool) (ao po : Option Addr) (la ca lp cp : Nat) : Prop where
  eq : W = (w.alloc (.cells #[.bool na, .slice ao la ca, .slice po lp cp] 30)).alloc (.cells #[.bool false, .slice none 0 0, .slice none 0 0] 30)
  below : Below w.heap.size w W
  size : W.heap.size = w.heap.size + 2
  a : Boxed3 W w.heap.size na ao la ca po lp cp
  r : Fresh3 W (w.heap.size + 1)
theorem ROne2.mk' (w : World) (na : Bool) (ao po : Option Addr) (la ca lp cp : Nat) : ∃ W, ROne2 w W na ao po la ca lp cp :=
  ⟨_, rfl, ((Below.refl _ _).alloc (Nat.le_refl _) _).alloc (by simp) _, by simp, ⟨by simp [go_sem], by simp [go_sem], by simp [go_sem]⟩, ⟨fun j => by simp [go_sem], by simp [go_sem], by simp [go_sem], by simp [go_sem]⟩⟩
structure RTwo2 (w W : World) (na nb : Bool) (ao po bo qo : Option Addr) (la ca lp cp lb cb lq cq : Nat) : Prop where
  eq : W = (w.alloc (.cells #[.bool na, .slice ao la ca, .slice po lp cp] 30)).alloc (.cells #[.bool nb, .slice bo lb cb, .slice qo lq cq] 30)
  below : Below w.heap.size w W
  size : W.heap.size = w.heap.size + 2
  a : Boxed3 W w.heap.size na ao la ca po lp cp
  b : Boxed3 W (w.heap.size + 1) nb bo lb cb qo lq cq
theorem RTwo2.mk' (w : World) (na nb : Bool) (ao po bo qo : Option Addr) (la ca lp cp lb cb lq cq : Nat) : ∃ W, RTwo2 w W na nb ao po bo qo la ca lp cp lb cb lq cq :=
  ⟨_, rfl, ((Below.refl _ _).alloc (Nat.le_refl _) _).alloc (by simp) _, by simp, ⟨by simp [go_sem], by simp [go_sem], by simp [go_sem]⟩, ⟨by simp [go_sem], by simp [go_sem], by simp [go_sem]⟩⟩
theorem RatAt.pos {w : World} {neg : Bool} {ao bo : Option Addr} {l c lb cb : Nat} {r : Rat} (h : RatAt w neg ao l c bo lb cb r) : 0 < lb := by
  rw [h.den.hlen]; exact mag_len_pos.2 r.den_pos
theorem rcheck_good (na : Bool) (ao po : Option Addr) (la ca lp cp : Nat) (a : Rat) (w : World) (hx : RatAt w na ao la ca po lp cp a) (hl : la ≤ 1073741824) (hl' : lp ≤ 1073741824) (hT : TabAt 0 Lib.deBruijn64tab w) :
    Calls Tryz.prog 28 #[.agg #[.bool na, .slice ao la ca, .slice po lp cp]] w fun e w' => e = .returned (.int .i64 0) ∧ Below w.heap.size w w' := by
  obtain ⟨W, hW⟩ := ROne1.mk' w na ao po la ca lp cp
  have hsz := hW.size
  have HX : Hid (RatAt W na ao la ca po lp cp a ∧ TabAt 0 Lib.deBruijn64tab W) := ⟨hx.later hW.below, tab_later hT hW.below⟩
  have hp : ((lp : Int) == 0) = false := by have := hx.pos; simp; omega
  have HG : Hid (decide (Nat.gcd a.num.natAbs a.den = 1) = true) := decide_eq_true a.reduced
  clear hx hT
  go_enter Tryz.func28, Tryz.ntmps28
  go_wp2_with (first
    | (go_at_call 52; have _t := hb1; refine (check_at false po lp cp _ _ (HX.out.1.den.later hb1) (by omega) 0 (row_int HX.out.1.den).may).mono ?_; rintro e w2 ⟨rfl, hb2⟩; clear p0 p1 p2; obtain ⟨p0, p1, p2⟩ := hW.a.later (bnext hb1 hb2) (by omega))
    | (go_at_call 52; rw [← hW.eq]; refine (check_at na ao la ca _ _ HX.out.1.num.row (by omega) 0 HX.out.1.num.may).mono ?_; rintro e w1 ⟨rfl, hb1⟩; obtain ⟨p0, p1, p2⟩ := hW.a.later hb1 (by omega))
    | (go_at_call 53; refine (apart_any ao po la ca lp cp _ _ _ (HX.out.1.num.row.later (bnext hb1 hb2)) (HX.out.1.den.later (bnext hb1 hb2)) a.den_pos hl hl' (tab_later HX.out.2 (bnext hb1 hb2)) true HG.out).mono ?_; rintro e w3 ⟨rfl, hb3⟩))
  go_ret
  exact ⟨rfl, bnext hW.below (bnext (bnext hb1 hb2) hb3)⟩
theorem checkBoth_good (na nb : Bool) (ao po bo qo : Option Addr) (la ca lp cp lb cb lq cq : Nat) (a b : Rat) (w : World) (hx : RatAt w na ao la ca po lp cp a) (hy : RatAt w nb bo lb cb qo lq cq b) (hl : la ≤ 1073741824) (hl' : lp ≤ 1073741824) (hm : lb ≤ 1073741824) (hm' : lq ≤ 1073741824) (hT : TabAt 0 Lib.deBruijn64tab w) :
    Calls Tryz.prog 89 #[.agg #[.bool na, .slice ao la ca, .slice po lp cp], .agg #[.bool nb, .slice bo lb cb, .slice qo lq cq]] w fun e w' => e = .returned (.int .i64 0) ∧ Below w.heap.size w w' := by
  obtain ⟨W, hW⟩ := RTwo2.mk' w na nb ao po bo qo la ca lp cp lb cb lq cq
  have hsz := hW.size
  have HX : Hid (RatAt W na ao la ca po lp cp a ∧ RatAt W nb bo lb cb qo lq cq b ∧ TabAt 0 Lib.deBruijn64tab W) := ⟨hx.later hW.below, hy.later hW.below, tab_later hT hW.below⟩
  clear hx hy hT
  go_enter Tryz.func89, Tryz.ntmps89
  go_wp2_with (first
    | (go_at_call 28; have _t := hb1; refine (rcheck_good nb bo qo lb cb lq cq b _ (HX.out.2.1.later hb1) hm hm' (tab_later HX.out.2.2 hb1)).mono ?_; rintro e w2 ⟨rfl, hb2⟩)
    | (go_at_call 28; rw [← hW.eq]; refine (rcheck_good na ao po la ca lp cp a _ HX.out.1 hl hl' HX.out.2.2).mono ?_; rintro e w1 ⟨rfl, hb1⟩; obtain ⟨p0, p1, p2⟩ := hW.b.later hb1 (by omega)))
  go_ret
  exact ⟨rfl, bnext hW.below (bnext hb1 hb2)⟩
def mayR (neg : Bool) (zs ds : List Int) : Bool := mayB neg zs && (mayB false ds && (decide (0 < ds.length) && decide (Nat.gcd (val 18446744073709551616 zs).natAbs (val 18446744073709551616 ds).natAbs = 1)))
theorem rat_of_may {w : World} {neg : Bool} {ao po : Option Addr} {la ca lp cp : Nat} {zs ds : List Int} (hx : RowAt w .u64 ao la ca zs) (wx : Wd 18446744073709551616 zs) (hy : RowAt w .u64 po lp cp ds) (wy : Wd 18446744073709551616 ds) (h : mayR neg zs ds = true) : ∃ r : Rat, RatAt w neg ao la ca po lp cp r ∧ zs = mag r.num.natAbs ∧ ds = mag r.den := by
  unfold mayR at h
  simp only [Bool.and_eq_true, decide_eq_true_eq] at h
  obtain ⟨h1, h2, h3, h4⟩ := h
  obtain ⟨v, hv, ev⟩ := int_of_may hx wx h1
  obtain ⟨d, hd, ed⟩ := int_of_may hy wy h2
  have hdn : d = (d.natAbs : Int) := by
    have hs := hd.sg
    have h5 : ¬ d < 0 := of_decide_eq_false (by simpa [sgB] using hs.symm)
    omega
  have e1 : (val 18446744073709551616 zs).natAbs = v.natAbs := by rw [ev, mag_val, Int.natAbs_natCast]
  have e2 : (val 18446744073709551616 ds).natAbs = d.natAbs := by rw [ed, mag_val, Int.natAbs_natCast]
  rw [e1, e2] at h4
  have h0 : d.natAbs ≠ 0 := fun e => by rw [ed, e] at h3; exact absurd h3 (by decide)
  exact ⟨⟨v, d.natAbs, h0, h4⟩, ⟨hv, hd.row⟩, ev, ed⟩
theorem nmay_eq (zs : List Int) : nmayB zs = mayB false zs := rfl
theorem qmay_any (na : Bool) (ao po : Option Addr) (la ca lp cp : Nat) (zs ds : List Int) (w : World) (hx : RowAt w .u64 ao la ca zs) (wx : Wd 18446744073709551616 zs) (hy : RowAt w .u64 po lp cp ds) (wy : Wd 18446744073709551616 ds) (hl : la ≤ 16777216) (hl' : lp ≤ 16777216) (c : Bool) (hc : mayR na zs ds = c) :
    Calls Tryz.prog 7 #[.agg #[.bool na, .slice ao la ca, .slice po lp cp]] w fun e w' => e = .returned (.bool c) ∧ Below w.heap.size w w' := by
  obtain ⟨W, hW⟩ := ROne1.mk' w na ao po la ca lp cp
  have hsz := hW.size
  have HX : Hid (RowAt W .u64 ao la ca zs ∧ RowAt W .u64 po lp cp ds) := ⟨hx.later hW.below, hy.later hW.below⟩
  have HC : Hid (mayR na zs ds = c) := hc
  have HL : Hid (lp = ds.length) := hy.hlen
  cases h1 : mayB na zs
  · obtain rfl : c = false := by rw [← HC.out]; simp [mayR, h1]
    have H1 : Hid (mayB na zs = false) := h1
    clear hx hy hc h1
    go_enter Tryz.func7, Tryz.ntmps7
    go_wp2_with (go_at_call 23; rw [← hW.eq]; refine (may_at na ao la ca zs _ HX.out.1 (by omega) false H1.out).mono ?_; rintro e w1 ⟨rfl, hb1⟩)
    go_ret
    exact ⟨rfl, bnext hW.below hb1⟩
  · have H1 : Hid (mayB na zs = true) := h1
    cases h2 : mayB false ds
    · obtain rfl : c = false := by rw [← HC.out]; simp [mayR, h2]
      have H2 : Hid (nmayB ds = false) := (nmay_eq ds).trans h2
      have hcon : ∀ X, RowAt X .u64 po lp cp ds → Calls Tryz.prog 24 #[.slice po lp cp] X fun e w' => e = .returned (.bool false) ∧ w' = X := fun X h => (nmay_any po lp cp ds X h (by omega)).mono fun e w' k => by rw [H2.out] at k; exact k
      clear hx hy hc h1 h2
      go_enter Tryz.func7, Tryz.ntmps7
      go_wp2_with (first
        | (go_at_call 23; rw [← hW.eq]; refine (may_at na ao la ca zs _ HX.out.1 (by omega) true H1.out).mono ?_; rintro e w1 ⟨rfl, hb1⟩; obtain ⟨p0, p1, p2⟩ := hW.a.later hb1 (by omega))
        | (go_at_call 24; refine (hcon _ (HX.out.2.later hb1)).mono ?_; rintro e w2 ⟨rfl, hw2⟩; replace hw2 := hw2.symm; subst hw2))
      go_ret
      exact ⟨rfl, bnext hW.below hb1⟩
    · have H2 : Hid (nmayB ds = true) := (nmay_eq ds).trans h2
      have hcon : ∀ X, RowAt X .u64 po lp cp ds → Calls Tryz.prog 24 #[.slice po lp cp] X fun e w' => e = .returned (.bool true) ∧ w' = X := fun X h => (nmay_any po lp cp ds X h (by omega)).mono fun e w' k => by rw [H2.out] at k; exact k
      by_cases h3 : lp = 0
      · obtain rfl : c = false := by rw [← HC.out]; have : ds.length = 0 := by have := HL.out; omega
                                     simp [mayR, this]
        subst h3
        clear hx hy hc h1 h2
        go_enter Tryz.func7, Tryz.ntmps7
        go_wp2_with (first
          | (go_at_call 23; rw [← hW.eq]; refine (may_at na ao la ca zs _ HX.out.1 (by omega) true H1.out).mono ?_; rintro e w1 ⟨rfl, hb1⟩; obtain ⟨p0, p1, p2⟩ := hW.a.later hb1 (by omega))
          | (go_at_call 24; refine (hcon _ (HX.out.2.later hb1)).mono ?_; rintro e w2 ⟨rfl, hw2⟩; replace hw2 := hw2.symm; subst hw2))
        go_ret
        exact ⟨rfl, bnext hW.below hb1⟩
      · have h3' : ((lp : Int) == 0) = false := by simp; omega
        obtain ⟨v, hv, ev⟩ := int_of_may HX.out.1 wx h1
        obtain ⟨d, hd, ed⟩ := int_of_may HX.out.2 wy h2
        have HG : Hid (decide (Nat.gcd v.natAbs d.natAbs = 1) = c) := by
          show _ = _
          rw [← HC.out]; unfold mayR
          rw [h1, h2, decide_eq_true (show 0 < ds.length by have := HL.out; omega), Bool.true_and, Bool.true_and, Bool.true_and, ev, ed, mag_val, mag_val, Int.natAbs_natCast, Int.natAbs_natCast]
        have HR : Hid (RowAt W .u64 ao la ca (mag v.natAbs) ∧ RowAt W .u64 po lp cp (mag d.natAbs)) := ⟨hv.row, hd.row⟩
        obtain ⟨gn, hgn⟩ : ∃ gn, Nat.gcd v.natAbs d.natAbs = gn := ⟨_, rfl⟩
        have HGn : Hid (decide (gn = 1) = c) := by show _ = _; rw [← hgn]; exact HG.out
        have hgcd : ∀ X, Below W.heap.size W X → Calls Tryz.prog 25 #[.slice ao la ca, .slice po lp cp] X fun e w' => ∃ go lg cg, e = .returned (.slice go lg cg) ∧ RowAt w' .u64 go lg cg (mag gn) ∧ Below X.heap.size X w' := fun X h => (ngcd_any ao po la ca lp cp v.natAbs d.natAbs X (HR.out.1.later h) (HR.out.2.later h) hl hl').mono fun e w' ⟨go, lg, cg, k1, k2, _, k3⟩ => ⟨go, lg, cg, k1, hgn ▸ k2, k3⟩
        clear hx hy hc h1 h2 hv hd ev ed hgn HG
        have key : ∀ (go : Option Addr) (lg cg : Nat) (X : World), RowAt X .u64 go lg cg (mag gn) → (((lg : Int) == 1) = false ∧ c = false) ∨ ∃ g off x, lg = 1 ∧ go = some ⟨g, off, none⟩ ∧ X.cell? ⟨g, off, none⟩ = some (.int .u64 x) ∧ (x == 1) = c := fun go lg cg X h => by
          by_cases e : lg = 1
          · subst e
            obtain ⟨g, off, rfl, _, hcl⟩ := h.get (by decide)
            refine Or.inr ⟨g, off, _, rfl, rfl, hcl 0 (by decide), ?_⟩
            rw [one_limb h.hlen.symm, ← HGn.out]
            by_cases e2 : gn = 1
            · subst e2; rfl
            · rw [decide_eq_false e2]; simp; omega
          · refine Or.inl ⟨by simp; omega, ?_⟩
            rw [← HGn.out]
            refine decide_eq_false fun e2 => e ?_
            rw [h.hlen, e2, one_word]; rfl
        go_enter Tryz.func7, Tryz.ntmps7
        go_upto_region 4 with (first
          | (go_at_call 23; rw [← hW.eq]; refine (may_at na ao la ca zs _ HX.out.1 (by omega) true H1.out).mono ?_; rintro e w1 ⟨rfl, hb1⟩; obtain ⟨p0, p1, p2⟩ := hW.a.later hb1 (by omega))
          | (go_at_call 24; refine (hcon _ (HX.out.2.later hb1)).mono ?_; rintro e w2 ⟨rfl, hw2⟩; replace hw2 := hw2.symm; subst hw2)
          | (go_at_call 25; refine (hgcd _ hb1).mono ?_; rintro e w3 ⟨go, lg, cg, rfl, hr3, hb3⟩))
        rcases key go lg cg _ hr3 with ⟨k1, k2⟩ | ⟨g, off, x, rfl, rfl, k1, k2⟩
        · subst k2
          clear hr3 p0 p1 p2
          go_wp2
          go_ret
          exact ⟨rfl, bnext hW.below (bnext hb1 hb3)⟩
        · have K2 : Hid ((x == 1) = c) := k2
          clear hr3 p0 p1 p2 k2
          go_wp2
          go_ret
          exact ⟨ret_bool K2.out, bnext hW.below (bnext hb1 hb3)⟩
theorem eqrat_same (na nb : Bool) (ao po bo qo : Option Addr) (la ca lp cp lb cb lq cq : Nat) (a : Rat) (w : World) (hx : RatAt w na ao la ca po lp cp a) (hy : RatAt w nb bo lb cb qo lq cq a) (hl : la ≤ 1073741824) (hl' : lp ≤ 1073741824) :
    Calls Tryz.prog 12 #[.agg #[.bool na, .slice ao la ca, .slice po lp cp], .agg #[.bool nb, .slice bo lb cb, .slice qo lq cq]] w fun e w' => e = .returned (.bool true) ∧ Below w.heap.size w w' := by
  obtain ⟨W, hW⟩ := RTwo2.mk' w na nb ao po bo qo la ca lp cp lb cb lq cq
  have hsz := hW.size
  have HX : Hid (RatAt W na ao la ca po lp cp a ∧ RatAt W nb bo lb cb qo lq cq a) := ⟨hx.later hW.below, hy.later hW.below⟩
  have hcon : ∀ X, Below W.heap.size W X → Calls Tryz.prog 33 #[.slice po lp cp, .slice qo lq cq] X fun e w' => e = .returned (.bool true) ∧ Below X.heap.size X w' := fun X h => (eqwords_any po qo lp cp lq cq (mag a.den) (mag a.den) X (HX.out.1.den.later h) (HX.out.2.den.later h) (by omega)).mono fun e w' k => by rw [decide_eq_true rfl] at k; exact k
  clear hx hy
  go_enter Tryz.func12, Tryz.ntmps12
  go_wp2_with (first
    | (go_at_call 32; rw [← hW.eq]; refine (eqint_at na nb ao bo la ca lb cb a.num a.num _ HX.out.1.num HX.out.2.num (by omega) true (decide_eq_true rfl)).mono ?_; rintro e w1 ⟨rfl, hb1⟩; obtain ⟨p0, p1, p2⟩ := hW.a.later hb1 (by omega); obtain ⟨q0, q1, q2⟩ := hW.b.later hb1 (by omega))
    | (go_at_call 33; refine (hcon _ hb1).mono ?_; rintro e w2 ⟨rfl, hb2⟩))
  go_ret
  exact ⟨rfl, bnext hW.below (bnext hb1 hb2)⟩
theorem run_mag (w : World) (n : Bool) (o : Option Addr) (l c : Nat) : Sem.run Tryz.prog (Instr.field 28 (.agg #[.bool n, .slice o l c]) 1) w = .ok (.slice o l c) w := by
 have h := run_underlying Tryz.underlying28 w
 unfold Instr.field
 simp [go_sem, h, asAgg]
theorem row_kept3 {w : World} {p : Option Addr} {m k r : Nat} {zs : List Int} {x y z : Value} {n9 : Bool} {o9 p9 : Option Addr} {l9 c9 m9 d9 : Nat} (hr : RowAt w .u64 p m k zs) (hf : Boxed3 w r n9 o9 l9 c9 p9 m9 d9) : RowAt (((w.setCell ⟨r, 0, none⟩ x).setCell ⟨r, 1, none⟩ y).setCell ⟨r, 2, none⟩ z) .u64 p m k zs := by
 obtain ⟨f0, f1, f2⟩ := hf
 refine ⟨hr.hlen, hr.hcap, hr.hnil, ?_⟩
 rcases hr.hat with h0 | ⟨b, off, h1, hlt, h2⟩
 ·
  exact Or.inl h0
 ·
  refine Or.inr ⟨b, off, h1, by simpa using hlt, fun t ht => ?_⟩
  have h3 := h2 t ht
  by_cases e : b = r
  ·
   subst e
   have n0 : off + t ≠ 0 := fun e => by rw [e] at h3; rw [h3] at f0; cases f0
   have n1 : off + t ≠ 1 := fun e => by rw [e] at h3; rw [h3] at f1; cases f1
   have n2 : off + t ≠ 2 := fun e => by rw [e] at h3; rw [h3] at f2; cases f2
   rw [setCell_ne (fun e => n2 e.2), setCell_ne (fun e => n1 e.2), setCell_ne (fun e => n0 e.2)]; exact h3
  ·
   rw [cell_off e, cell_off e, cell_off e]; exact h3
theorem int_kept3 {w : World} {n : Bool} {p : Option Addr} {m k r : Nat} {v : Int} {x y z : Value} {n9 : Bool} {o9 p9 : Option Addr} {l9 c9 m9 d9 : Nat} (h : IntAt w n p m k v) (hf : Boxed3 w r n9 o9 l9 c9 p9 m9 d9) : IntAt (((w.setCell ⟨r, 0, none⟩ x).setCell ⟨r, 1, none⟩ y).setCell ⟨r, 2, none⟩ z) n p m k v := ⟨h.sg, row_kept3 h.row hf⟩
theorem rat_kept {w : World} {neg : Bool} {ao bo : Option Addr} {l c lb cb r : Nat} {a : Rat} {x y z : Value} {n9 : Bool} {o9 p9 : Option Addr} {l9 c9 m9 d9 : Nat} (h : RatAt w neg ao l c bo lb cb a) (hf : Boxed3 w r n9 o9 l9 c9 p9 m9 d9) : RatAt (((w.setCell ⟨r, 0, none⟩ x).setCell ⟨r, 1, none⟩ y).setCell ⟨r, 2, none⟩ z) neg ao l c bo lb cb a :=
 ⟨int_kept3 h.num hf, row_kept3 h.den hf⟩
structure R1 (w W : World) : Prop where
 eq : W = w.alloc (.cells #[.bool false, .slice none 0 0, .slice none 0 0] 30)
 below : Below w.heap.size w W
 size : W.heap.size = w.heap.size + 1
 r : Fresh3 W w.heap.size
theorem R1.mk' (w : World) : ∃ W, R1 w W := ⟨_, rfl, (Below.refl _ _).alloc (Nat.le_refl _) _, by simp, ⟨fun j => by simp [go_sem], by simp [go_sem], by simp [go_sem], by simp [go_sem]⟩⟩
theorem eqraw_same (neg : Bool) (ao po bo qo : Option Addr) (la ca lp cp lb cb lq cq : Nat) (zs ds : List Int) (w : World) (hx : RowAt w .u64 ao la ca zs) (hx2 : RowAt w .u64 po lp cp ds) (hy : RowAt w .u64 bo lb cb zs) (hy2 : RowAt w .u64 qo lq cq ds) (hl : la ≤ 1073741824) (hl' : lp ≤ 1073741824) :
  Calls Tryz.prog 12 #[.agg #[.bool neg, .slice ao la ca, .slice po lp cp], .agg #[.bool neg, .slice bo lb cb, .slice qo lq cq]] w fun e w' => e = .returned (.bool true) ∧ Below w.heap.size w w' := by
 obtain ⟨W, hW⟩ := RTwo2.mk' w neg neg ao po bo qo la ca lp cp lb cb lq cq
 have hsz := hW.size
 have hcon1 : Calls Tryz.prog 32 #[.agg #[.bool neg, .slice ao la ca], .agg #[.bool neg, .slice bo lb cb]] W fun e w' => e = .returned (.bool true) ∧ Below W.heap.size W w' := (eqint_any neg neg ao bo la ca lb cb zs zs W (hx.later hW.below) (hy.later hW.below) (by omega)).mono fun e w' h => by simpa using h
 have hcon : ∀ X, Below W.heap.size W X → Calls Tryz.prog 33 #[.slice po lp cp, .slice qo lq cq] X fun e w' => e = .returned (.bool true) ∧ Below X.heap.size X w' := fun X h => (eqwords_any po qo lp cp lq cq ds ds X ((hx2.later hW.below).later h) ((hy2.later hW.below).later h) (by omega)).mono fun e w' k => by rw [decide_eq_true rfl] at k; exact k
 clear hx hy hx2 hy2
 go_enter Tryz.func12, Tryz.ntmps12
 go_wp2_with (first
  | (go_at_call 32; rw [← hW.eq]; refine hcon1.mono ?_; rintro e w1 ⟨rfl, hb1⟩; obtain ⟨p0, p1, p2⟩ := hW.a.later hb1 (by omega); obtain ⟨q0, q1, q2⟩ := hW.b.later hb1 (by omega))
  | (go_at_call 33; refine (hcon _ hb1).mono ?_; rintro e w2 ⟨rfl, hb2⟩))
 go_ret
 exact ⟨rfl, bnext hW.below (bnext hb1 hb2)⟩
def SomeR (w w' : World) (e : Ending) (r : Rat) : Prop := ∃ neg ao l c bo lb cb, e = .returned (.agg #[.bool neg, .slice ao l c, .slice bo lb cb]) ∧ RatAt w' neg ao l c bo lb cb r ∧ Below w.heap.size w w'
structure IR2 (w W : World) (na : Bool) (ao : Option Addr) (la ca : Nat) : Prop where
 eq : W = (w.alloc (.cells #[.bool na, .slice ao la ca] 28)).alloc (.cells #[.bool false, .slice none 0 0, .slice none 0 0] 30)
 below : Below w.heap.size w W
 size : W.heap.size = w.heap.size + 2
 a : Boxed W w.heap.size na ao la ca
 r : Fresh3 W (w.heap.size + 1)
theorem IR2.mk' (w : World) (na : Bool) (ao : Option Addr) (la ca : Nat) : ∃ W, IR2 w W na ao la ca :=
 ⟨_, rfl, ((Below.refl _ _).alloc (Nat.le_refl _) _).alloc (by simp) _, by simp, ⟨by simp [go_sem], by simp [go_sem]⟩, ⟨fun j => by simp [go_sem], by simp [go_sem], by simp [go_sem], by simp [go_sem]⟩⟩
theorem qfrom_any (na : Bool) (ao : Option Addr) (la ca : Nat) (zs : List Int) (w : World) (hx : RowAt w .u64 ao la ca zs) :
  Calls Tryz.prog 37 #[.agg #[.bool na, .slice ao la ca]] w fun e w' => ∃ bo lb cb, e = .returned (.agg #[.bool na, .slice ao la ca, .slice bo lb cb]) ∧ RowAt w' .u64 ao la ca zs ∧ Own w.heap.size w' .u64 60 bo lb cb (mag 1) ∧ Below w.heap.size w w' := by
 obtain ⟨W, hT⟩ := IR2.mk' w na ao la ca
 have hsz := hT.size
 have KW : Hid (∀ w' : World, Below W.heap.size W w' → w'.cell? ⟨w.heap.size, 0, none⟩ = some (.bool na) ∧ w'.cell? ⟨w.heap.size, 1, none⟩ = some (.slice ao la ca)) := fun w' h => ⟨(h.cell (p := ⟨w.heap.size, 0, none⟩) (by show w.heap.size < _; omega)).trans hT.a.1, (h.cell (p := ⟨w.heap.size, 1, none⟩) (by show w.heap.size < _; omega)).trans hT.a.2⟩
 have KS : Hid (∀ X : World, Below W.heap.size W X → ∀ x y z, (fun w' : World => w'.cell? ⟨w.heap.size, 0, none⟩ = some (.bool na) ∧ w'.cell? ⟨w.heap.size, 1, none⟩ = some (.slice ao la ca)) (((X.setCell ⟨w.heap.size + 1, 0, none⟩ x).setCell ⟨w.heap.size + 1, 1, none⟩ y).setCell ⟨w.heap.size + 1, 2, none⟩ z)) := fun X h x y z => by
  obtain ⟨h1, h2⟩ := KW.out X h
  (try dsimp only)
  rw [cell_off (by omega), cell_off (by omega), cell_off (by omega), cell_off (by omega), cell_off (by omega), cell_off (by omega)]
  exact ⟨h1, h2⟩
 have HF : Hid (Fresh3 W (w.heap.size + 1) ∧ Below w.heap.size w W ∧ RowAt w .u64 ao la ca zs) := ⟨hT.r, hT.below, hx⟩
 clear hx
 go_enter Tryz.func37, Tryz.ntmps37
 go_upto_region 1 with fail
 rw [← hT.eq]
 clear hT
 have hzU : W.heap.size ≤ W.drew.heap.size := Nat.le_refl _
 have S0 : Step8 0 := ⟨trivial⟩
 go_region_held3 (fun w' => (w'.cell? ⟨w.heap.size, 0, none⟩ = some (.bool na) ∧ w'.cell? ⟨w.heap.size, 1, none⟩ = some (.slice ao la ca)))
  (with_reducible (first | exact KS.out _ hbF1 _ _ _ | exact KW.out _ (Below.refl _ _).drew | exact KW.out _ (by assumption) | (refine KW.out _ ?_; (repeat (first | refine below_alloc ?_ (Nat.le_refl _) | refine Below.drew ?_ | refine below_set ?_ (by omega))); (first | exact hbF1 | exact Below.refl _ _))))
  (first
   | (have _t := S0; go_at_call 45; refine with_held (S := fun w9 => Below W.heap.size W w9) (by show Below _ _ _; with_reducible ((repeat (first | refine below_alloc ?_ (Nat.le_refl _) | refine Below.drew ?_ | refine below_set ?_ (by omega))); (first | exact hbF1 | exact Below.refl _ _))) (fun hS => ?_); refine (nof_at 1 1 _ rfl (by decide)).mono ?_; rintro e f1 ⟨o1, l1, c1, rfl, ho, hb⟩; have H1 : Hid (Own W.heap.size f1 .u64 60 o1 l1 c1 (mag 1) ∧ Below W.heap.size W f1) := ⟨ho.mono hS.size, bnext hS hb⟩; clear ho; obtain ⟨k5, k2, k3, k4⟩ := HF.out.1.later (bnext hS hb) (by omega); have hbF1 : Below W.heap.size W f1 := bnext hS hb; have hzF1 := hbF1.size; clear hS hb S0; skip))
 all_goals go_wp2
 have hs1 := H1.out.2.size
 exact bodyPost_ret (v := .agg #[.bool na, .slice ao la ca, .slice o1 l1 c1]) (by simp [results, Tryz.results37, go_sem, k2, k3, k4]) rfl
  ⟨_, _, _, rfl, HF.out.2.2.later (below_store3 (bnext HF.out.2.1 H1.out.2) (by omega) _ _ _), (H1.out.1.store3 (by omega) _ _ _).mono (by omega), below_store3 (bnext HF.out.2.1 H1.out.2) (by omega) _ _ _⟩
theorem cmp_parts {n m : Int} {ad bd : Nat} (ha : 0 < ad) (hb : 0 < bd) (h : cmpI n 0 ≠ cmpI m 0 ∨ cmpI n 0 = 0) : cmpI (cmpI n 0) (cmpI m 0) = cmpI (n * (bd : Int)) (m * (ad : Int)) := by
 have p1 : ∀ {x : Int} {k : Nat}, 0 < k → 0 < x → 0 < x * (k : Int) := fun hk hx => Int.mul_pos hx (by omega)
 have p2 : ∀ {x : Int} {k : Nat}, 0 < k → x < 0 → x * (k : Int) < 0 := fun hk hx => Int.mul_neg_of_neg_of_pos hx (by omega)
 rcases Int.lt_trichotomy n 0 with h1 | h1 | h1 <;> rcases Int.lt_trichotomy m 0 with h2 | h2 | h2
 ·
  exfalso; revert h; unfold cmpI; simp [h1, h2]
 ·
  subst h2; have := p2 hb h1; unfold cmpI; simp [h1, this]
 ·
  have := p2 hb h1; have := p1 ha h2; unfold cmpI; rw [if_pos (show n * (bd : Int) < m * (ad : Int) by omega), if_pos h1, if_neg (show ¬ m < 0 by omega), if_pos h2]; decide
 ·
  subst h1; have := p2 ha h2; unfold cmpI; rw [if_pos h2, Int.zero_mul, if_neg (show ¬ 0 < m * (ad : Int) by omega), if_pos this]; decide
 ·
  subst h1; subst h2; unfold cmpI; simp
 ·
  subst h1; have := p1 ha h2; unfold cmpI; rw [Int.zero_mul, if_pos this, if_neg (show ¬ m < 0 by omega), if_pos h2]; decide
 ·
  have := p1 hb h1; have := p2 ha h2; unfold cmpI; rw [if_neg (show ¬ n * (bd : Int) < m * (ad : Int) by omega), if_pos (show m * (ad : Int) < n * (bd : Int) by omega), if_neg (show ¬ n < 0 by omega), if_pos h1, if_pos h2]; decide
 ·
  subst h2; have := p1 hb h1; unfold cmpI; rw [Int.zero_mul, if_neg (show ¬ n * (bd : Int) < 0 by omega), if_pos this, if_neg (show ¬ n < 0 by omega), if_pos h1]; decide
 ·
  exfalso; revert h; unfold cmpI; rw [if_neg (show ¬ n < 0 by omega), if_pos h1, if_neg (show ¬ m < 0 by omega), if_pos h2]; decide
def cmpQ (a b : Rat) : Int := cmpI (a.num * (b.den : Int)) (b.num * (a.den : Int))
theorem cmpI_vals (n m : Int) : cmpI n m = -1 ∨ cmpI n m = 0 ∨ cmpI n m = 1 := by
 unfold cmpI
 split
 ·
  exact Or.inl rfl
 ·
  split
  ·
   exact Or.inr (Or.inr rfl)
  ·
   exact Or.inr (Or.inl rfl)
theorem cmpQ_neg (a b : Rat) : cmpQ b a = - cmpQ a b := by
 unfold cmpQ cmpI; split <;> split <;> (try split) <;> omega
theorem isNaN_any (n : Int) (w : World) : Calls Tryz.prog 125 #[.int .i64 n] w fun e w' => e = .returned (.bool false) ∧ w' = w := by
 go_enter Tryz.func125, Tryz.ntmps125
 go_wp2
 go_ret
 exact ⟨by simp, rfl⟩
theorem compareInt_any (s t : Int) (w : World) (c : Int) (hc : cmpI s t = c) : Calls Tryz.prog 109 #[.int .i64 s, .int .i64 t] w fun e w' => e = .returned (.int .i64 c) ∧ w' = w := by
 rcases Int.lt_trichotomy s t with h | h | h
 ·
  obtain rfl : c = -1 := by rw [← hc]; unfold cmpI; rw [if_pos h]
  clear hc
  go_enter Tryz.func109, Tryz.ntmps109
  go_wp2_with (go_at_call 125; refine (isNaN_any _ _).mono ?_; rintro e x ⟨rfl, hx⟩; replace hx := hx.symm; subst hx)
  go_ret
  exact ⟨rfl, rfl⟩
 ·
  subst h
  obtain rfl : c = 0 := by rw [← hc]; unfold cmpI; rw [if_neg (by omega), if_neg (by omega)]
  clear hc
  go_enter Tryz.func109, Tryz.ntmps109
  go_wp2_with (go_at_call 125; refine (isNaN_any _ _).mono ?_; rintro e x ⟨rfl, hx⟩; replace hx := hx.symm; subst hx)
  go_ret
  exact ⟨rfl, rfl⟩
 ·
  have h1 : ¬ s < t := by omega
  obtain rfl : c = 1 := by rw [← hc]; unfold cmpI; rw [if_neg h1, if_pos h]
  clear hc
  go_enter Tryz.func109, Tryz.ntmps109
  go_wp2_with (go_at_call 125; refine (isNaN_any _ _).mono ?_; rintro e x ⟨rfl, hx⟩; replace hx := hx.symm; subst hx)
  go_ret
  exact ⟨rfl, rfl⟩
theorem compare_rat (na nb : Bool) (ao po bo qo : Option Addr) (la ca lp cp lb cb lq cq : Nat) (a b : Rat) (w : World) (hx : RatAt w na ao la ca po lp cp a) (hy : RatAt w nb bo lb cb qo lq cq b) (ha : Sz a 10000) (hb : Sz b 10000) (c : Int) (hc : cmpQ a b = c) :
  Calls Tryz.prog 90 #[.agg #[.bool na, .slice ao la ca, .slice po lp cp], .agg #[.bool nb, .slice bo lb cb, .slice qo lq cq]] w fun e w' => e = .returned (.int .i64 c) ∧ Below w.heap.size w w' := by
 obtain ⟨W, hT⟩ := RTwo2.mk' w na nb ao po bo qo la ca lp cp lb cb lq cq
 have hsz := hT.size
 have HX : Hid (RatAt W na ao la ca po lp cp a ∧ RatAt W nb bo lb cb qo lq cq b ∧ Below w.heap.size w W) := ⟨hx.later hT.below, hy.later hT.below, hT.below⟩
 have hla : la ≤ 10000 := (hx.len ha).1
 have hlp : lp ≤ 10000 := (hx.len ha).2
 have hlb : lb ≤ 10000 := (hy.len hb).1
 have hlq : lq ≤ 10000 := (hy.len hb).2
 have KW : Hid (∀ w' : World, Below W.heap.size W w' → w'.cell? ⟨w.heap.size, 0, none⟩ = some (.bool na) ∧ w'.cell? ⟨w.heap.size, 1, none⟩ = some (.slice ao la ca) ∧ w'.cell? ⟨w.heap.size, 2, none⟩ = some (.slice po lp cp) ∧ w'.cell? ⟨w.heap.size + 1, 0, none⟩ = some (.bool nb) ∧ w'.cell? ⟨w.heap.size + 1, 1, none⟩ = some (.slice bo lb cb) ∧ w'.cell? ⟨w.heap.size + 1, 2, none⟩ = some (.slice qo lq cq)) := fun w' h => ⟨(h.cell (p := ⟨w.heap.size, 0, none⟩) (by show w.heap.size < _; omega)).trans hT.a.1, (h.cell (p := ⟨w.heap.size, 1, none⟩) (by show w.heap.size < _; omega)).trans hT.a.2.1, (h.cell (p := ⟨w.heap.size, 2, none⟩) (by show w.heap.size < _; omega)).trans hT.a.2.2, (h.cell (p := ⟨w.heap.size + 1, 0, none⟩) (by show w.heap.size + 1 < _; omega)).trans hT.b.1, (h.cell (p := ⟨w.heap.size + 1, 1, none⟩) (by show w.heap.size + 1 < _; omega)).trans hT.b.2.1, (h.cell (p := ⟨w.heap.size + 1, 2, none⟩) (by show w.heap.size + 1 < _; omega)).trans hT.b.2.2⟩
 obtain ⟨s, hs⟩ : ∃ s, cmpI a.num 0 = s := ⟨_, rfl⟩
 obtain ⟨t, ht⟩ : ∃ t, cmpI b.num 0 = t := ⟨_, rfl⟩
 have hs3 : s = -1 ∨ s = 0 ∨ s = 1 := hs ▸ cmpI_vals a.num 0
 have ht3 : t = -1 ∨ t = 0 ∨ t = 1 := ht ▸ cmpI_vals b.num 0
 have HC : Hid (cmpI a.num 0 = s ∧ cmpI b.num 0 = t ∧ cmpI (a.num * (b.den : Int)) (b.num * (a.den : Int)) = c) := ⟨hs, ht, hc⟩
 have HL : Hid ((mag (a.num * (b.den : Int)).natAbs).length ≤ 30000 ∧ (mag (b.num * (a.den : Int)).natAbs).length ≤ 30000) := by
  have h2 := mul_len a.num (b.den : Int)
  have h3 := mul_len b.num (a.den : Int)
  rw [Int.natAbs_natCast] at h2 h3
  have := ha.1; have := ha.2; have := hb.1; have := hb.2
  refine ⟨?_, ?_⟩ <;> omega
 clear hx hy ha hb hs ht hc
 go_enter Tryz.func90, Tryz.ntmps90
 go_upto_region 1 with fail
 rw [← hT.eq]
 clear hT
 have hzU : W.heap.size ≤ W.drew.heap.size := Nat.le_refl _
 have S0 : Step8 0 := ⟨trivial⟩
 go_region_held3 (fun w' => (w'.cell? ⟨w.heap.size, 0, none⟩ = some (.bool na) ∧ w'.cell? ⟨w.heap.size, 1, none⟩ = some (.slice ao la ca) ∧ w'.cell? ⟨w.heap.size, 2, none⟩ = some (.slice po lp cp) ∧ w'.cell? ⟨w.heap.size + 1, 0, none⟩ = some (.bool nb) ∧ w'.cell? ⟨w.heap.size + 1, 1, none⟩ = some (.slice bo lb cb) ∧ w'.cell? ⟨w.heap.size + 1, 2, none⟩ = some (.slice qo lq cq)))
  (with_reducible (first | exact KW.out _ (Below.refl _ _).drew | exact KW.out _ (by assumption) | (refine KW.out _ ?_; (repeat (first | refine below_alloc ?_ (Nat.le_refl _) | refine Below.drew ?_ | refine below_set ?_ (by omega))); (first | exact hbF2 | exact hbF1 | exact Below.refl _ _))))
  (first
   | (have _t := S0; go_at_call 108; refine with_held (S := fun w9 => Below W.heap.size W w9) (by show Below _ _ _; with_reducible ((repeat (first | refine below_alloc ?_ (Nat.le_refl _) | refine Below.drew ?_ | refine below_set ?_ (by omega))); (first | exact hbF2 | exact hbF1 | exact Below.refl _ _))) (fun hS => ?_); refine (bsign_any na ao la ca a.num _ (HX.out.1.num.later hS) (by omega) s HC.out.1).mono ?_; rintro e f1 ⟨rfl, hb⟩; skip; have hbF1 : Below W.heap.size W f1 := bnext hS hb; have hzF1 := hbF1.size; clear hS hb S0; have S1 : Step8 1 := ⟨trivial⟩)
   | (have _t := S1; go_at_call 108; refine with_held (S := fun w9 => Below W.heap.size W w9) (by show Below _ _ _; with_reducible ((repeat (first | refine below_alloc ?_ (Nat.le_refl _) | refine Below.drew ?_ | refine below_set ?_ (by omega))); (first | exact hbF2 | exact hbF1 | exact Below.refl _ _))) (fun hS => ?_); refine with_held (S := fun w9 => Below f1.heap.size f1 w9) (by show Below _ _ _; with_reducible ((repeat (refine below_alloc ?_ (Nat.le_refl _))); exact Below.refl _ _)) (fun hS2 => ?_); refine (bsign_any nb bo lb cb b.num _ (HX.out.2.1.num.later hS) (by omega) t HC.out.2.1).mono ?_; rintro e f2 ⟨rfl, hb⟩; skip; have hbF2 : Below W.heap.size W f2 := bnext hS hb; have hzF2 := hbF2.size; clear hS hb S1; clear hS2; skip))
 obtain ⟨U, hU⟩ : ∃ U, U = f2 := ⟨_, rfl⟩
 subst hU
 have HU : Hid (RatAt U na ao la ca po lp cp a ∧ RatAt U nb bo lb cb qo lq cq b ∧ Below w.heap.size w U) := ⟨HX.out.1.later hbF2, HX.out.2.1.later hbF2, bnext HX.out.2.2 hbF2⟩
 have KU : Hid (∀ w' : World, Below U.heap.size U w' → w'.cell? ⟨w.heap.size, 0, none⟩ = some (.bool na) ∧ w'.cell? ⟨w.heap.size, 1, none⟩ = some (.slice ao la ca) ∧ w'.cell? ⟨w.heap.size, 2, none⟩ = some (.slice po lp cp) ∧ w'.cell? ⟨w.heap.size + 1, 0, none⟩ = some (.bool nb) ∧ w'.cell? ⟨w.heap.size + 1, 1, none⟩ = some (.slice bo lb cb) ∧ w'.cell? ⟨w.heap.size + 1, 2, none⟩ = some (.slice qo lq cq)) := fun w' h => KW.out w' (bnext hbF2 h)
 clear HX hbF2 hzF2 hbF1 hzF1 KW
 by_cases hq : s ≠ t ∨ s = 0
 ·
  as_aux_lemma =>
  have HR : Hid (cmpI s t = c) := by
   have h1 := cmp_parts (n := a.num) (m := b.num) (ad := a.den) (bd := b.den) a.den_pos b.den_pos (by rw [HC.out.1, HC.out.2.1]; exact hq)
   rw [HC.out.1, HC.out.2.1, HC.out.2.2] at h1; exact h1
  clear HC
  rcases hs3 with rfl | rfl | rfl <;> rcases ht3 with rfl | rfl | rfl
  all_goals first
   | (exfalso; revert hq; decide)
   | (clear hq; go_wp2_with (go_at_call 109; refine (compareInt_any _ _ _ c HR.out).mono ?_; rintro e x ⟨rfl, hx⟩; replace hx := hx.symm; subst hx); go_ret; exact ⟨rfl, HU.out.2.2⟩)
 ·
  as_aux_lemma =>
  obtain ⟨hst, hs0⟩ : s = t ∧ s ≠ 0 := ⟨Decidable.byContradiction fun e => hq (Or.inl e), fun e => hq (Or.inr e)⟩
  subst hst
  have hs0' : (s == 0) = false := by simpa using hs0
  clear hq hs3 ht3 hs0
  go_upto_region 4 with fail
  have hzU : U.heap.size ≤ U.drew.heap.size := Nat.le_refl _
  have S0 : Step8 0 := ⟨trivial⟩
  go_region_held3 (fun w' => (w'.cell? ⟨w.heap.size, 0, none⟩ = some (.bool na) ∧ w'.cell? ⟨w.heap.size, 1, none⟩ = some (.slice ao la ca) ∧ w'.cell? ⟨w.heap.size, 2, none⟩ = some (.slice po lp cp) ∧ w'.cell? ⟨w.heap.size + 1, 0, none⟩ = some (.bool nb) ∧ w'.cell? ⟨w.heap.size + 1, 1, none⟩ = some (.slice bo lb cb) ∧ w'.cell? ⟨w.heap.size + 1, 2, none⟩ = some (.slice qo lq cq)))
   (with_reducible (first | exact KU.out _ (Below.refl _ _).drew | exact KU.out _ (by assumption) | (refine KU.out _ ?_; (repeat (first | refine below_alloc ?_ (Nat.le_refl _) | refine Below.drew ?_ | refine below_set ?_ (by omega))); (first | exact hbF3 | exact hbF2 | exact hbF1 | exact Below.refl _ _))))
   (first
    | (have _t := S0; go_at_call 110; refine with_held (S := fun w9 => Below U.heap.size U w9) (by show Below _ _ _; with_reducible ((repeat (first | refine below_alloc ?_ (Nat.le_refl _) | refine Below.drew ?_ | refine below_set ?_ (by omega))); (first | exact hbF3 | exact hbF2 | exact hbF1 | exact Below.refl _ _))) (fun hS => ?_); refine (timesNat_any na ao qo la ca lq cq a.num b.den _ (HU.out.1.num.later hS) (HU.out.2.1.den.later hS) (by omega) (by omega)).mono ?_; rintro e f1 ⟨n3, o3, l3, c3, rfl, hs, ho3, hb⟩; have H1 : Hid (IntAt f1 n3 o3 l3 c3 (a.num * (b.den : Int))) := ho3.int hs; have hl3 : l3 ≤ 30000 := (by rw [ho3.row.hlen]; exact HL.out.1); clear hs ho3; have hbF1 : Below U.heap.size U f1 := bnext hS hb; have hzF1 := hbF1.size; clear hS hb S0; have S1 : Step8 1 := ⟨trivial⟩)
    | (have _t := S1; go_at_call 110; refine with_held (S := fun w9 => Below U.heap.size U w9) (by show Below _ _ _; with_reducible ((repeat (first | refine below_alloc ?_ (Nat.le_refl _) | refine Below.drew ?_ | refine below_set ?_ (by omega))); (first | exact hbF3 | exact hbF2 | exact hbF1 | exact Below.refl _ _))) (fun hS => ?_); refine with_held (S := fun w9 => Below f1.heap.size f1 w9) (by show Below _ _ _; with_reducible ((repeat (refine below_alloc ?_ (Nat.le_refl _))); exact Below.refl _ _)) (fun hS2 => ?_); refine (timesNat_any nb bo po lb cb lp cp b.num a.den _ (HU.out.2.1.num.later hS) (HU.out.1.den.later hS) (by omega) (by omega)).mono ?_; rintro e f2 ⟨n4, o4, l4, c4, rfl, hs, ho4, hb⟩; have H2 : Hid (IntAt f2 n3 o3 l3 c3 (a.num * (b.den : Int)) ∧ IntAt f2 n4 o4 l4 c4 (b.num * (a.den : Int))) := ⟨H1.out.later (bnext hS2 hb), ho4.int hs⟩; have hl4 : l4 ≤ 30000 := (by rw [ho4.row.hlen]; exact HL.out.2); clear hs ho4; have hbF2 : Below U.heap.size U f2 := bnext hS hb; have hzF2 := hbF2.size; clear hS hb S1; clear hS2; have S2 : Step8 2 := ⟨trivial⟩)
    | (have _t := S2; go_at_call 93; refine with_held (S := fun w9 => Below U.heap.size U w9) (by show Below _ _ _; with_reducible ((repeat (first | refine below_alloc ?_ (Nat.le_refl _) | refine Below.drew ?_ | refine below_set ?_ (by omega))); (first | exact hbF3 | exact hbF2 | exact hbF1 | exact Below.refl _ _))) (fun hS => ?_); refine with_held (S := fun w9 => Below f2.heap.size f2 w9) (by show Below _ _ _; with_reducible ((repeat (refine below_alloc ?_ (Nat.le_refl _))); exact Below.refl _ _)) (fun hS2 => ?_); refine (bcmp_any n3 n4 o3 o4 l3 c3 l4 c4 _ _ _ (H2.out.1.later hS2) (H2.out.2.later hS2) (by omega) (by omega) c HC.out.2.2).mono ?_; rintro e f3 ⟨rfl, hb⟩; skip; have hbF3 : Below U.heap.size U f3 := bnext hS hb; have hzF3 := hbF3.size; clear hS hb S2; clear hS2; skip))
  all_goals go_wp2
  go_ret
  exact ⟨rfl, bnext HU.out.2.2 hbF3⟩
theorem cmp_rat (na nb : Bool) (ao po bo qo : Option Addr) (la ca lp cp lb cb lq cq : Nat) (a b : Rat) (w : World) (hx : RatAt w na ao la ca po lp cp a) (hy : RatAt w nb bo lb cb qo lq cq b) (ha : Sz a 10000) (hb : Sz b 10000) (hT0 : TabAt 0 Lib.deBruijn64tab w) (c : Int) (hc : cmpQ a b = c) :
  Calls Tryz.prog 58 #[.agg #[.bool na, .slice ao la ca, .slice po lp cp], .agg #[.bool nb, .slice bo lb cb, .slice qo lq cq]] w fun e w' => e = .returned (.int .i64 c) ∧ Below w.heap.size w w' := by
 obtain ⟨W, hT⟩ := RTwo2.mk' w na nb ao po bo qo la ca lp cp lb cb lq cq
 have hsz := hT.size
 have HX : Hid (RatAt W na ao la ca po lp cp a ∧ RatAt W nb bo lb cb qo lq cq b ∧ TabAt 0 Lib.deBruijn64tab W) := ⟨hx.later hT.below, hy.later hT.below, tab_later hT0 hT.below⟩
 have hla : la ≤ 10000 := (hx.len ha).1
 have hlp : lp ≤ 10000 := (hx.len ha).2
 have hlb : lb ≤ 10000 := (hy.len hb).1
 have hlq : lq ≤ 10000 := (hy.len hb).2
 have HC : Hid (cmpQ a b = c ∧ Sz a 10000 ∧ Sz b 10000) := ⟨hc, ha, hb⟩
 clear hx hy ha hb hc hT0
 go_enter Tryz.func58, Tryz.ntmps58
 go_wp2_with (first
  | (go_at_call 89; rw [← hT.eq]; refine (checkBoth_good na nb ao po bo qo la ca lp cp lb cb lq cq a b _ HX.out.1 HX.out.2.1 (by omega) (by omega) (by omega) (by omega) HX.out.2.2).mono ?_; rintro e w1 ⟨rfl, hb1⟩; obtain ⟨p0, p1, p2⟩ := hT.a.later hb1 (by omega); obtain ⟨q0, q1, q2⟩ := hT.b.later hb1 (by omega))
  | (go_at_call 90; refine (compare_rat na nb ao po bo qo la ca lp cp lb cb lq cq a b _ (HX.out.1.later hb1) (HX.out.2.1.later hb1) HC.out.2.1 HC.out.2.2 c HC.out.1).mono ?_; rintro e w2 ⟨rfl, hb2⟩))
 go_ret
 exact ⟨rfl, bnext hT.below (bnext hb1 hb2)⟩
theorem scheck_good (n1 n2 : Bool) (o1 p1 o2 p2 : Option Addr) (l1 c1 m1 k1 l2 c2 m2 k2 : Nat) (a b : Rat) (w : World) (hx : RatAt w n1 o1 l1 c1 p1 m1 k1 a) (hy : RatAt w n2 o2 l2 c2 p2 m2 k2 b) (ha : Sz a 10000) (hb : Sz b 10000) (hc : cmpQ a b ≤ 0) (hT0 : TabAt 0 Lib.deBruijn64tab w) :
  Calls Tryz.prog 30 #[.agg #[.bool n1, .slice o1 l1 c1, .slice p1 m1 k1, .bool n2, .slice o2 l2 c2, .slice p2 m2 k2]] w fun e w' => e = .returned (.int .i64 0) ∧ Below w.heap.size w w' := by
 obtain ⟨W, hW, hsz, hbW, hA⟩ := enter1 w [.bool n1, .slice o1 l1 c1, .slice p1 m1 k1, .bool n2, .slice o2 l2 c2, .slice p2 m2 k2] 32
 have HX : Hid (RatAt W n1 o1 l1 c1 p1 m1 k1 a ∧ RatAt W n2 o2 l2 c2 p2 m2 k2 b ∧ TabAt 0 Lib.deBruijn64tab W) := ⟨hx.later hbW, hy.later hbW, tab_later hT0 hbW⟩
 have hl1 : l1 ≤ 10000 := (hx.len ha).1
 have hm1 : m1 ≤ 10000 := (hx.len ha).2
 have hl2 : l2 ≤ 10000 := (hy.len hb).1
 have hm2 : m2 ≤ 10000 := (hy.len hb).2
 have HC : Hid (Sz a 10000 ∧ Sz b 10000) := ⟨ha, hb⟩
 obtain ⟨c, hc1⟩ : ∃ c, cmpQ a b = c := ⟨_, rfl⟩
 have HCC : Hid (cmpQ a b = c) := hc1
 have hc0 : ¬ (0 : Int) < c := by omega
 clear hx hy ha hb hc hc1 hT0
 go_enter Tryz.func30, Tryz.ntmps30
 go_wp2_with (first
  | (go_at_call 28; have _t := hb1; refine (rcheck_good n2 o2 p2 l2 c2 m2 k2 b _ (HX.out.2.1.later hb1) (by omega) (by omega) (tab_later HX.out.2.2 hb1)).mono ?_; rintro e w2 ⟨rfl, hb2'⟩; have hb2 := bnext hb1 hb2'; clear hb2' u0 u1 u2 u3 u4 u5 hb1; have ub := hA.later hb2 (by omega); have u0 := ub.1 0 _ rfl; have u1 := ub.1 1 _ rfl; have u2 := ub.1 2 _ rfl; have u3 := ub.1 3 _ rfl; have u4 := ub.1 4 _ rfl; have u5 := ub.1 5 _ rfl; clear ub)
  | (go_at_call 28; rw [← hW]; refine (rcheck_good n1 o1 p1 l1 c1 m1 k1 a _ HX.out.1 (by omega) (by omega) HX.out.2.2).mono ?_; rintro e w1 ⟨rfl, hb1⟩; have ub := hA.later hb1 (by omega); have u0 := ub.1 0 _ rfl; have u1 := ub.1 1 _ rfl; have u2 := ub.1 2 _ rfl; have u3 := ub.1 3 _ rfl; have u4 := ub.1 4 _ rfl; have u5 := ub.1 5 _ rfl; clear ub)
  | (go_at_call 58; refine (cmp_rat n1 n2 o1 p1 o2 p2 l1 c1 m1 k1 l2 c2 m2 k2 a b _ (HX.out.1.later hb2) (HX.out.2.1.later hb2) HC.out.1 HC.out.2 (tab_later HX.out.2.2 hb2) c HCC.out).mono ?_; rintro e w3 ⟨rfl, hb3⟩))
 go_ret
 exact ⟨rfl, bnext hbW (bnext hb2 hb3)⟩
def minQ (a b : Rat) : Rat := if cmpQ b a < 0 then b else a
def maxQ (a b : Rat) : Rat := if 0 < cmpQ b a then b else a
end Go.Proofs.YthjkdnlbdhhmbaaGreatDoor
