/-
  Walks: what is a rational; is it long, is it 0; are two the same.
-/
import Derived.Test.YthjkdnlbdhhmbaaGreatDoorPQ09
import Derived.Test.YthjkdnlbdhhmbaaGreatDoorPQ11
import Derived.Test.YthjkdnlbdhhmbaaGreatDoorPQ16
import Derived.Test.YthjkdnlbdhhmbaaGreatDoorPQ17
import Derived.Test.YthjkdnlbdhhmbaaGreatDoorPQ21
import Derived.Deep.DeepCutAuto
import Derived.Deep.RegionHeld3
import Derived.Laws.BytesArg
import Derived.Shelf.Strconv.Itoa1
import Derived.Shelf.Strconv.Itoa2
import Derived.Lib.ItoaMem
import Derived.Lib.AppendIntMem
import Derived.Shelf.Strings.Repeat
import Derived.Lib.AppendStr
import Derived.Laws.Strings
import Derived.Shelf.Strings.Prefix
import Derived.Shelf.Strings.Search1
import Derived.Lib.IndexLaws
namespace Go.Proofs.YthjkdnlbdhhmbaaGreatDoor
open Go.RowKit
set_option linter.unusedVariables false
set_option linter.unusedSimpArgs false
/-- a rational handed in -/
structure ROne1 (w W : World) (na : Bool) (ao po : Option Addr) (la ca lp cp : Nat) : Prop where
  eq : W = w.alloc (.cells #[.bool na, .slice ao la ca, .slice po lp cp] 30)
  below : Below w.heap.size w W
  size : W.heap.size = w.heap.size + 1
  a : Boxed3 W w.heap.size na ao la ca po lp cp
theorem ROne1.mk' (w : World) (na : Bool) (ao po : Option Addr) (la ca lp cp : Nat) : ∃ W, ROne1 w W na ao po la ca lp cp :=
  ⟨_, rfl, (Below.refl _ _).alloc (Nat.le_refl _) _, by simp, ⟨by simp [go_sem], by simp [go_sem], by simp [go_sem]⟩⟩
/-- a rational handed in, a rational to come -/
structure ROne2 (w W : World) (na : Bool) (ao po : Option Addr) (la ca lp cp : Nat) : Prop where
  eq : W = (w.alloc (.cells #[.bool na, .slice ao la ca, .slice po lp cp] 30)).alloc (.cells #[.bool false, .slice none 0 0, .slice none 0 0] 30)
  below : Below w.heap.size w W
  size : W.heap.size = w.heap.size + 2
  a : Boxed3 W w.heap.size na ao la ca po lp cp
  r : Fresh3 W (w.heap.size + 1)
theorem ROne2.mk' (w : World) (na : Bool) (ao po : Option Addr) (la ca lp cp : Nat) : ∃ W, ROne2 w W na ao po la ca lp cp :=
  ⟨_, rfl, ((Below.refl _ _).alloc (Nat.le_refl _) _).alloc (by simp) _, by simp, ⟨by simp [go_sem], by simp [go_sem], by simp [go_sem]⟩, ⟨fun j => by simp [go_sem], by simp [go_sem], by simp [go_sem], by simp [go_sem]⟩⟩
/-- two rationals handed in -/
structure RTwo2 (w W : World) (na nb : Bool) (ao po bo qo : Option Addr) (la ca lp cp lb cb lq cq : Nat) : Prop where
  eq : W = (w.alloc (.cells #[.bool na, .slice ao la ca, .slice po lp cp] 30)).alloc (.cells #[.bool nb, .slice bo lb cb, .slice qo lq cq] 30)
  below : Below w.heap.size w W
  size : W.heap.size = w.heap.size + 2
  a : Boxed3 W w.heap.size na ao la ca po lp cp
  b : Boxed3 W (w.heap.size + 1) nb bo lb cb qo lq cq
theorem RTwo2.mk' (w : World) (na nb : Bool) (ao po bo qo : Option Addr) (la ca lp cp lb cb lq cq : Nat) : ∃ W, RTwo2 w W na nb ao po bo qo la ca lp cp lb cb lq cq :=
  ⟨_, rfl, ((Below.refl _ _).alloc (Nat.le_refl _) _).alloc (by simp) _, by simp, ⟨by simp [go_sem], by simp [go_sem], by simp [go_sem]⟩, ⟨by simp [go_sem], by simp [go_sem], by simp [go_sem]⟩⟩
theorem RatAt.pos {w : World} {neg : Bool} {ao bo : Option Addr} {l c lb cb : Nat} {r : Rat} (h : RatAt w neg ao l c bo lb cb r) : 0 < lb := by
  rw [h.den.hlen]; exact mag_len_pos.2 r.den_pos
set_option maxRecDepth 100000 in
set_option maxHeartbeats 1000000 in
theorem rcheck_good (na : Bool) (ao po : Option Addr) (la ca lp cp : Nat) (a : Rat) (w : World) (hx : RatAt w na ao la ca po lp cp a) (hl : la ≤ 1073741824) (hl' : lp ≤ 1073741824) (hT : TabAt 0 Lib.deBruijn64tab w) :
    Calls Tryz.prog 28 #[.agg #[.bool na, .slice ao la ca, .slice po lp cp]] w fun e w' => e = .returned (.int .i64 0) ∧ Below w.heap.size w w' := by
  obtain ⟨W, hW⟩ := ROne1.mk' w na ao po la ca lp cp
  have hsz := hW.size
  have HX : Hid (RatAt W na ao la ca po lp cp a ∧ TabAt 0 Lib.deBruijn64tab W) := ⟨hx.later hW.below, tab_later hT hW.below⟩
  have hp : ((lp : Int) == 0) = false := by have := hx.pos; simp; omega
  have HG : Hid (decide (Nat.gcd a.num.natAbs a.den = 1) = true) := decide_eq_true a.reduced
  clear hx hT
  go_enter Tryz.func28, Tryz.ntmps28
  go_wp2_with (first
    | (go_at_call 52; have _t := hb1; refine (check_at false po lp cp _ _ (HX.out.1.den.later hb1) (by omega) 0 (row_int HX.out.1.den).may).mono ?_; rintro e w2 ⟨rfl, hb2⟩; clear p0 p1 p2; obtain ⟨p0, p1, p2⟩ := hW.a.later (bnext hb1 hb2) (by omega))
    | (go_at_call 52; rw [← hW.eq]; refine (check_at na ao la ca _ _ HX.out.1.num.row (by omega) 0 HX.out.1.num.may).mono ?_; rintro e w1 ⟨rfl, hb1⟩; obtain ⟨p0, p1, p2⟩ := hW.a.later hb1 (by omega))
    | (go_at_call 53; refine (apart_any ao po la ca lp cp _ _ _ (HX.out.1.num.row.later (bnext hb1 hb2)) (HX.out.1.den.later (bnext hb1 hb2)) a.den_pos hl hl' (tab_later HX.out.2 (bnext hb1 hb2)) true HG.out).mono ?_; rintro e w3 ⟨rfl, hb3⟩))
  go_ret
  exact ⟨rfl, bnext hW.below (bnext (bnext hb1 hb2) hb3)⟩
set_option maxRecDepth 100000 in
set_option maxHeartbeats 1000000 in
theorem checkBoth_good (na nb : Bool) (ao po bo qo : Option Addr) (la ca lp cp lb cb lq cq : Nat) (a b : Rat) (w : World) (hx : RatAt w na ao la ca po lp cp a) (hy : RatAt w nb bo lb cb qo lq cq b) (hl : la ≤ 1073741824) (hl' : lp ≤ 1073741824) (hm : lb ≤ 1073741824) (hm' : lq ≤ 1073741824) (hT : TabAt 0 Lib.deBruijn64tab w) :
    Calls Tryz.prog 89 #[.agg #[.bool na, .slice ao la ca, .slice po lp cp], .agg #[.bool nb, .slice bo lb cb, .slice qo lq cq]] w fun e w' => e = .returned (.int .i64 0) ∧ Below w.heap.size w w' := by
  obtain ⟨W, hW⟩ := RTwo2.mk' w na nb ao po bo qo la ca lp cp lb cb lq cq
  have hsz := hW.size
  have HX : Hid (RatAt W na ao la ca po lp cp a ∧ RatAt W nb bo lb cb qo lq cq b ∧ TabAt 0 Lib.deBruijn64tab W) := ⟨hx.later hW.below, hy.later hW.below, tab_later hT hW.below⟩
  clear hx hy hT
  go_enter Tryz.func89, Tryz.ntmps89
  go_wp2_with (first
    | (go_at_call 28; have _t := hb1; refine (rcheck_good nb bo qo lb cb lq cq b _ (HX.out.2.1.later hb1) hm hm' (tab_later HX.out.2.2 hb1)).mono ?_; rintro e w2 ⟨rfl, hb2⟩)
    | (go_at_call 28; rw [← hW.eq]; refine (rcheck_good na ao po la ca lp cp a _ HX.out.1 hl hl' HX.out.2.2).mono ?_; rintro e w1 ⟨rfl, hb1⟩; obtain ⟨p0, p1, p2⟩ := hW.b.later hb1 (by omega)))
  go_ret
  exact ⟨rfl, bnext hW.below (bnext hb1 hb2)⟩
/-- numbers that are no rational: a limb on top is 0, a sign without a number, no denominator, or a common divisor -/
def mayR (neg : Bool) (zs ds : List Int) : Bool := mayB neg zs && (mayB false ds && (decide (0 < ds.length) && decide (Nat.gcd (val 18446744073709551616 zs).natAbs (val 18446744073709551616 ds).natAbs = 1)))
theorem rat_of_may {w : World} {neg : Bool} {ao po : Option Addr} {la ca lp cp : Nat} {zs ds : List Int} (hx : RowAt w .u64 ao la ca zs) (wx : Wd 18446744073709551616 zs) (hy : RowAt w .u64 po lp cp ds) (wy : Wd 18446744073709551616 ds) (h : mayR neg zs ds = true) : ∃ r : Rat, RatAt w neg ao la ca po lp cp r ∧ zs = mag r.num.natAbs ∧ ds = mag r.den := by
  unfold mayR at h
  simp only [Bool.and_eq_true, decide_eq_true_eq] at h
  obtain ⟨h1, h2, h3, h4⟩ := h
  obtain ⟨v, hv, ev⟩ := int_of_may hx wx h1
  obtain ⟨d, hd, ed⟩ := int_of_may hy wy h2
  have hdn : d = (d.natAbs : Int) := by
    have hs := hd.sg
    have h5 : ¬ d < 0 := of_decide_eq_false (by simpa [sgB] using hs.symm)
    omega
  have e1 : (val 18446744073709551616 zs).natAbs = v.natAbs := by rw [ev, mag_val, Int.natAbs_natCast]
  have e2 : (val 18446744073709551616 ds).natAbs = d.natAbs := by rw [ed, mag_val, Int.natAbs_natCast]
  rw [e1, e2] at h4
  have h0 : d.natAbs ≠ 0 := fun e => by rw [ed, e] at h3; exact absurd h3 (by decide)
  exact ⟨⟨v, d.natAbs, h0, h4⟩, ⟨hv, hd.row⟩, ev, ed⟩
theorem nmay_eq (zs : List Int) : nmayB zs = mayB false zs := rfl
set_option maxRecDepth 100000 in
set_option maxHeartbeats 1000000 in
theorem qmay_any (na : Bool) (ao po : Option Addr) (la ca lp cp : Nat) (zs ds : List Int) (w : World) (hx : RowAt w .u64 ao la ca zs) (wx : Wd 18446744073709551616 zs) (hy : RowAt w .u64 po lp cp ds) (wy : Wd 18446744073709551616 ds) (hl : la ≤ 16777216) (hl' : lp ≤ 16777216) (c : Bool) (hc : mayR na zs ds = c) :
    Calls Tryz.prog 7 #[.agg #[.bool na, .slice ao la ca, .slice po lp cp]] w fun e w' => e = .returned (.bool c) ∧ Below w.heap.size w w' := by
  obtain ⟨W, hW⟩ := ROne1.mk' w na ao po la ca lp cp
  have hsz := hW.size
  have HX : Hid (RowAt W .u64 ao la ca zs ∧ RowAt W .u64 po lp cp ds) := ⟨hx.later hW.below, hy.later hW.below⟩
  have HC : Hid (mayR na zs ds = c) := hc
  have HL : Hid (lp = ds.length) := hy.hlen
  cases h1 : mayB na zs
  · obtain rfl : c = false := by rw [← HC.out]; simp [mayR, h1]
    have H1 : Hid (mayB na zs = false) := h1
    clear hx hy hc h1
    go_enter Tryz.func7, Tryz.ntmps7
    go_wp2_with (go_at_call 23; rw [← hW.eq]; refine (may_at na ao la ca zs _ HX.out.1 (by omega) false H1.out).mono ?_; rintro e w1 ⟨rfl, hb1⟩)
    go_ret
    exact ⟨rfl, bnext hW.below hb1⟩
  · have H1 : Hid (mayB na zs = true) := h1
    cases h2 : mayB false ds
    · obtain rfl : c = false := by rw [← HC.out]; simp [mayR, h2]
      have H2 : Hid (nmayB ds = false) := (nmay_eq ds).trans h2
      have hcon : ∀ X, RowAt X .u64 po lp cp ds → Calls Tryz.prog 24 #[.slice po lp cp] X fun e w' => e = .returned (.bool false) ∧ w' = X := fun X h => (nmay_any po lp cp ds X h (by omega)).mono fun e w' k => by rw [H2.out] at k; exact k
      clear hx hy hc h1 h2
      go_enter Tryz.func7, Tryz.ntmps7
      go_wp2_with (first
        | (go_at_call 23; rw [← hW.eq]; refine (may_at na ao la ca zs _ HX.out.1 (by omega) true H1.out).mono ?_; rintro e w1 ⟨rfl, hb1⟩; obtain ⟨p0, p1, p2⟩ := hW.a.later hb1 (by omega))
        | (go_at_call 24; refine (hcon _ (HX.out.2.later hb1)).mono ?_; rintro e w2 ⟨rfl, hw2⟩; replace hw2 := hw2.symm; subst hw2))
      go_ret
      exact ⟨rfl, bnext hW.below hb1⟩
    · have H2 : Hid (nmayB ds = true) := (nmay_eq ds).trans h2
      have hcon : ∀ X, RowAt X .u64 po lp cp ds → Calls Tryz.prog 24 #[.slice po lp cp] X fun e w' => e = .returned (.bool true) ∧ w' = X := fun X h => (nmay_any po lp cp ds X h (by omega)).mono fun e w' k => by rw [H2.out] at k; exact k
      by_cases h3 : lp = 0
      · obtain rfl : c = false := by rw [← HC.out]; have : ds.length = 0 := by have := HL.out; omega
                                     simp [mayR, this]
        subst h3
        clear hx hy hc h1 h2
        go_enter Tryz.func7, Tryz.ntmps7
        go_wp2_with (first
          | (go_at_call 23; rw [← hW.eq]; refine (may_at na ao la ca zs _ HX.out.1 (by omega) true H1.out).mono ?_; rintro e w1 ⟨rfl, hb1⟩; obtain ⟨p0, p1, p2⟩ := hW.a.later hb1 (by omega))
          | (go_at_call 24; refine (hcon _ (HX.out.2.later hb1)).mono ?_; rintro e w2 ⟨rfl, hw2⟩; replace hw2 := hw2.symm; subst hw2))
        go_ret
        exact ⟨rfl, bnext hW.below hb1⟩
      · have h3' : ((lp : Int) == 0) = false := by simp; omega
        obtain ⟨v, hv, ev⟩ := int_of_may HX.out.1 wx h1
        obtain ⟨d, hd, ed⟩ := int_of_may HX.out.2 wy h2
        have HG : Hid (decide (Nat.gcd v.natAbs d.natAbs = 1) = c) := by
          show _ = _
          rw [← HC.out]; unfold mayR
          rw [h1, h2, decide_eq_true (show 0 < ds.length by have := HL.out; omega), Bool.true_and, Bool.true_and, Bool.true_and, ev, ed, mag_val, mag_val, Int.natAbs_natCast, Int.natAbs_natCast]
        have HR : Hid (RowAt W .u64 ao la ca (mag v.natAbs) ∧ RowAt W .u64 po lp cp (mag d.natAbs)) := ⟨hv.row, hd.row⟩
        obtain ⟨gn, hgn⟩ : ∃ gn, Nat.gcd v.natAbs d.natAbs = gn := ⟨_, rfl⟩
        have HGn : Hid (decide (gn = 1) = c) := by show _ = _; rw [← hgn]; exact HG.out
        have hgcd : ∀ X, Below W.heap.size W X → Calls Tryz.prog 25 #[.slice ao la ca, .slice po lp cp] X fun e w' => ∃ go lg cg, e = .returned (.slice go lg cg) ∧ RowAt w' .u64 go lg cg (mag gn) ∧ Below X.heap.size X w' := fun X h => (ngcd_any ao po la ca lp cp v.natAbs d.natAbs X (HR.out.1.later h) (HR.out.2.later h) hl hl').mono fun e w' ⟨go, lg, cg, k1, k2, _, k3⟩ => ⟨go, lg, cg, k1, hgn ▸ k2, k3⟩
        clear hx hy hc h1 h2 hv hd ev ed hgn HG
        have key : ∀ (go : Option Addr) (lg cg : Nat) (X : World), RowAt X .u64 go lg cg (mag gn) → (((lg : Int) == 1) = false ∧ c = false) ∨ ∃ g off x, lg = 1 ∧ go = some ⟨g, off, none⟩ ∧ X.cell? ⟨g, off, none⟩ = some (.int .u64 x) ∧ (x == 1) = c := fun go lg cg X h => by
          by_cases e : lg = 1
          · subst e
            obtain ⟨g, off, rfl, _, hcl⟩ := h.get (by decide)
            refine Or.inr ⟨g, off, _, rfl, rfl, hcl 0 (by decide), ?_⟩
            rw [one_limb h.hlen.symm, ← HGn.out]
            by_cases e2 : gn = 1
            · subst e2; rfl
            · rw [decide_eq_false e2]; simp; omega
          · refine Or.inl ⟨by simp; omega, ?_⟩
            rw [← HGn.out]
            refine decide_eq_false fun e2 => e ?_
            rw [h.hlen, e2, one_word]; rfl
        go_enter Tryz.func7, Tryz.ntmps7
        go_upto_region 4 with (first
          | (go_at_call 23; rw [← hW.eq]; refine (may_at na ao la ca zs _ HX.out.1 (by omega) true H1.out).mono ?_; rintro e w1 ⟨rfl, hb1⟩; obtain ⟨p0, p1, p2⟩ := hW.a.later hb1 (by omega))
          | (go_at_call 24; refine (hcon _ (HX.out.2.later hb1)).mono ?_; rintro e w2 ⟨rfl, hw2⟩; replace hw2 := hw2.symm; subst hw2)
          | (go_at_call 25; refine (hgcd _ hb1).mono ?_; rintro e w3 ⟨go, lg, cg, rfl, hr3, hb3⟩))
        rcases key go lg cg _ hr3 with ⟨k1, k2⟩ | ⟨g, off, x, rfl, rfl, k1, k2⟩
        · subst k2
          clear hr3 p0 p1 p2
          go_wp2
          go_ret
          exact ⟨rfl, bnext hW.below (bnext hb1 hb3)⟩
        · have K2 : Hid ((x == 1) = c) := k2
          clear hr3 p0 p1 p2 k2
          go_wp2
          go_ret
          exact ⟨ret_bool K2.out, bnext hW.below (bnext hb1 hb3)⟩
end Go.Proofs.YthjkdnlbdhhmbaaGreatDoor
/-
  Walks: products of rationals. (gen/rprod.py)
-/
namespace Go.Proofs.YthjkdnlbdhhmbaaGreatDoor
open Go.RowKit
set_option linter.unusedVariables false
set_option linter.unusedSimpArgs false
theorem run_mag (w : World) (n : Bool) (o : Option Addr) (l c : Nat) : Sem.run Tryz.prog (Instr.field 28 (.agg #[.bool n, .slice o l c]) 1) w = .ok (.slice o l c) w := by
  have h := run_underlying Tryz.underlying28 w
  unfold Instr.field
  simp [go_sem, h, asAgg]
end Go.Proofs.YthjkdnlbdhhmbaaGreatDoor
/-
  HT, HU.
-/
/- Walks: the page's texts (digits). -/
namespace Go.Proofs.YthjkdnlbdhhmbaaGreatDoor
open Go.RowKit
set_option linter.unusedVariables false
set_option linter.unusedSimpArgs false
/-- byte k of a text (0 beyond its end) -/
def byteAt (s : ByteArray) (k : Nat) : Nat := if h : k < s.size then s[k].toNat else 0
/-- the number of its first k digits -/
def decVal (s : ByteArray) : Nat → Nat
  | 0 => 0
  | k + 1 => decVal s k * 10 + (byteAt s k - 48)
end Go.Proofs.YthjkdnlbdhhmbaaGreatDoor
/- Walks: the page's Parse. -/
namespace Go.Proofs.YthjkdnlbdhhmbaaGreatDoor
open Go.RowKit
set_option linter.unusedVariables false
set_option linter.unusedSimpArgs false
end Go.Proofs.YthjkdnlbdhhmbaaGreatDoor
/-
  HY, HZ.
-/
/- Walks: the page's text of a number. -/
namespace Go.Proofs.YthjkdnlbdhhmbaaGreatDoor
open Go.RowKit
set_option linter.unusedVariables false
set_option linter.unusedSimpArgs false
/-- digits E are written, R is left -/
structure TxSt (n : Nat) (E : List Int) (R : Nat) : Prop where
  wd : Wd 10 E
  eq : val 10 E + 10 ^ E.length * (R : Int) = (n : Int)
theorem TxSt.step {n R : Nat} {E : List Int} (h : TxSt n E R) : TxSt n (E ++ [((R % 10 : Nat) : Int)]) (R / 10) := by
  refine ⟨h.wd.append (Wd.one (by omega)), ?_⟩
  have h1 := h.eq
  rw [val_snoc, List.length_append, List.length_singleton, Int.pow_succ]
  have h2 : (R : Int) = ((R % 10 : Nat) : Int) + 10 * ((R / 10 : Nat) : Int) := by omega
  rw [h2] at h1
  rw [← h1]; grind
theorem TxSt.len {n R : Nat} {E : List Int} (h : TxSt n E R) (hR : 0 < R) {l : Nat} (hn : n < 18446744073709551616 ^ l) : E.length ≤ 64 * l := by
  have h1 := h.eq
  have h2 := val_nonneg (q := 10) (by decide) h.wd
  have h3 : (10 : Int) ^ E.length ≤ (n : Int) := by
    have : (10 : Int) ^ E.length * 1 ≤ 10 ^ E.length * (R : Int) := Int.mul_le_mul_of_nonneg_left (by omega) (Int.le_of_lt (Int.pow_pos (by decide)))
    omega
  have h4 : 10 ^ E.length ≤ n := by exact_mod_cast h3
  have h5 : 2 ^ E.length ≤ 10 ^ E.length := Nat.pow_le_pow_left (by decide) _
  have h6 : (18446744073709551616 : Nat) ^ l = 2 ^ (64 * l) := by rw [Nat.pow_mul]
  have h7 : 2 ^ E.length < 2 ^ (64 * l) := by omega
  exact Nat.le_of_lt ((Nat.pow_lt_pow_iff_right (by decide)).1 h7)
theorem TxSt.le {n R : Nat} {E : List Int} (h : TxSt n E R) : R ≤ n := by
  have h1 := h.eq
  have h2 := val_nonneg (q := 10) (by decide) h.wd
  have h3 : 1 * (R : Int) ≤ 10 ^ E.length * (R : Int) := Int.mul_le_mul_of_nonneg_right (by have := Int.pow_pos (n := 10) (m := E.length) (by decide); omega) (by omega)
  omega
end Go.Proofs.YthjkdnlbdhhmbaaGreatDoor
/- Walks: NText. -/
namespace Go.Proofs.YthjkdnlbdhhmbaaGreatDoor
open Go.RowKit
set_option linter.unusedVariables false
set_option linter.unusedSimpArgs false
theorem owns_later {w w' : World} {B n : Nat} {t : TypeId} {v : Value} {xs : List Value} (h : w.ownsRow B t 1 v n xs) (hb : Below w.heap.size w w') : w'.ownsRow B t 1 v n xs := by
  refine ⟨h.1, ?_⟩
  rcases h.2 with hv | ⟨g, cap, cur, hv, hg, hh, hrest⟩
  · exact Or.inl hv
  · exact Or.inr ⟨g, cap, cur, hv, hg, by rw [hb.block g (heap_lt hh)]; exact hh, hrest⟩
theorem own_grown {B B' n : Nat} {w w' : World} {k : IntKind} {t t' : TypeId} {v : Value} {xs : List Value} {ao : Option Addr} {len cap : Nat} {zs : List Int} (h : Own B w k t ao len cap zs) (ho : w.ownsRow B' t' 1 v n xs) (hg : w.grownBy w' v.ownBlock) (hne : t ≠ t') : Own B w' k t ao len cap zs := by
  rcases h with h | ⟨g, off, cur, h1, h2, h3, h4⟩
  · exact Or.inl h
  · refine Or.inr ⟨g, off, cur, h1, h2, ?_, h4⟩
    rw [hg.block g (heap_lt h3) ?_]
    · exact h3
    · intro e
      rcases ho.2 with ⟨rfl, _⟩ | ⟨g', cap', cur', rfl, hg', hh, _⟩
      · cases e
      · simp only [Value.ownBlock, Option.some.injEq] at e
        subst e
        rw [h3] at hh
        simp only [Option.some.injEq, Obj.cells.injEq] at hh
        exact hne hh.2.1
end Go.Proofs.YthjkdnlbdhhmbaaGreatDoor
/-
  IA, IB, IC, ID, IE.
-/
/- Walks: a word's decimal text (strconv.FormatUint), by the shelf's contracts. -/
namespace Go.Proofs.YthjkdnlbdhhmbaaGreatDoor
open Go.RowKit Go.Sort Go.Lib
set_option linter.unusedVariables false
set_option linter.unusedSimpArgs false
/-- the table of powers of ten lies in the world -/
def Pow10 (w : World) : Prop := Lib.TabIs Tryz.prog w "internal/strconv.uint64pow10" .u64 Lib.pow10Tab
theorem Pow10.later {w w' : World} (h : Pow10 w) (hb : Below w.heap.size w w') : Pow10 w' := Lib.tabBelow_of_tabIs h w' hb
end Go.Proofs.YthjkdnlbdhhmbaaGreatDoor
/- Walks: a string of noughts (strings.Repeat), by the shelf's contract. -/
namespace Go.Proofs.YthjkdnlbdhhmbaaGreatDoor
open Go.RowKit
set_option linter.unusedVariables false
set_option linter.unusedSimpArgs false
/-- blocks of what is no byte stay -/
def KeepT (w w' : World) : Prop := w.heap.size ≤ w'.heap.size ∧ ∀ (k : Nat) (cur : Array Value) (t : TypeId) (fr : Nat × Nat), w.heap[k]? = some (Obj.cells cur t fr) → t ≠ 5 → w'.heap[k]? = some (Obj.cells cur t fr)
theorem KeepT.refl (w : World) : KeepT w w := ⟨Nat.le_refl _, fun _ _ _ _ h _ => h⟩
theorem KeepT.trans {w w1 w2 : World} (h : KeepT w w1) (k : KeepT w1 w2) : KeepT w w2 := ⟨Nat.le_trans h.1 k.1, fun i cur t fr hi ht => k.2 i cur t fr (h.2 i cur t fr hi ht) ht⟩
theorem KeepT.below {w w' : World} (h : Below w.heap.size w w') : KeepT w w' := ⟨h.size, fun k cur t fr hk _ => by rw [h.block k (heap_lt hk)]; exact hk⟩
theorem KeepT.grown {w w' : World} {B n : Nat} {v : Value} {xs : List Value} (ho : w.ownsRow B 5 1 v n xs) (hg : w.grownBy w' v.ownBlock) : KeepT w w' := by
  refine ⟨hg.size, fun k cur t fr hk ht => ?_⟩
  rw [hg.block k (heap_lt hk) ?_]
  · exact hk
  · intro e
    rcases ho.2 with ⟨rfl, _⟩ | ⟨g', cap', cur', rfl, hg', hh, _⟩
    · cases e
    · simp only [Value.ownBlock, Option.some.injEq] at e
      subst e
      rw [hk] at hh
      simp only [Option.some.injEq, Obj.cells.injEq] at hh
      exact ht hh.2.1
/-- bytes -/
def Byt (xs : List Int) : Prop := ∀ x ∈ xs, 0 ≤ x ∧ x < 256
end Go.Proofs.YthjkdnlbdhhmbaaGreatDoor
/- Plain: decimal digits, padded and not, in two halves. -/
namespace Go.Proofs.YthjkdnlbdhhmbaaGreatDoor
open Go.RowKit
set_option linter.unusedVariables false
set_option linter.unusedSimpArgs false
end Go.Proofs.YthjkdnlbdhhmbaaGreatDoor
/- Walks: tensUpTo. -/
namespace Go.Proofs.YthjkdnlbdhhmbaaGreatDoor
open Go.RowKit
set_option linter.unusedVariables false
set_option linter.unusedSimpArgs false
/-- 10^19, squared i times -/
def ten (i : Nat) : Nat := 10 ^ (19 * 2 ^ i)
/-- powers of ten that lie in a list -/
structure TensAt (B : Nat) (w : World) (v : Value) (m L : Nat) : Prop where
  row : ∃ xs : List Value, w.ownsRow B 26 1 v m xs ∧ ∀ i, i < m → ∃ o l c, xs[i]? = some (.slice o l c) ∧ Own B w .u64 60 o l c (mag (ten i)) ∧ l ≤ L
theorem TensAt.later {B m L : Nat} {w w' : World} {v : Value} (h : TensAt B w v m L) (hb : Below w.heap.size w w') : TensAt B w' v m L := by
  obtain ⟨xs, ho, hx⟩ := h.row
  exact ⟨xs, owns_later ho hb, fun i hi => by obtain ⟨o, l, c, h1, h2, h3⟩ := hx i hi; exact ⟨o, l, c, h1, h2.later hb, h3⟩⟩
theorem TensAt.push {B m L lp cp : Nat} {w w' : World} {v v' : Value} {po : Option Addr} {xs : List Value} (ho : w.ownsRow B 26 1 v m xs) (hx : ∀ i, i < m → ∃ o l c, xs[i]? = some (.slice o l c) ∧ Own B w .u64 60 o l c (mag (ten i)) ∧ l ≤ L) (hp : Own B w .u64 60 po lp cp (mag (ten m))) (hl : lp ≤ L) (hg : w.grownBy w' v.ownBlock) (ho' : w'.ownsRow B 26 1 v' (m + 1) (xs ++ [.slice po lp cp])) : TensAt B w' v' (m + 1) L := by
  refine ⟨xs ++ [.slice po lp cp], ho', fun i hi => ?_⟩
  have hxl : xs.length = m := by have := ho.1; omega
  by_cases e : i < m
  · obtain ⟨o, l, c, h1, h2, h3⟩ := hx i e
    exact ⟨o, l, c, by rw [List.getElem?_append_left (by omega)]; exact h1, own_grown h2 ho hg (by decide), h3⟩
  · obtain rfl : i = m := by omega
    exact ⟨po, lp, cp, by rw [List.getElem?_append_right (by omega), hxl]; simp, own_grown hp ho hg (by decide), hl⟩
end Go.Proofs.YthjkdnlbdhhmbaaGreatDoor
/- Walks: appendDecimal. -/
namespace Go.Proofs.YthjkdnlbdhhmbaaGreatDoor
open Go.RowKit
set_option linter.unusedVariables false
set_option linter.unusedSimpArgs false
theorem own_keep {B : Nat} {w w' : World} {k : IntKind} {t : TypeId} {ao : Option Addr} {len cap : Nat} {zs : List Int} (h : Own B w k t ao len cap zs) (hk : KeepT w w') (ht : t ≠ 5) : Own B w' k t ao len cap zs := by
  rcases h with h | ⟨g, off, cur, h1, h2, h3, h4⟩
  · exact Or.inl h
  · exact Or.inr ⟨g, off, cur, h1, h2, hk.2 _ _ _ _ h3 ht, h4⟩
theorem TensAt.keep {B m L : Nat} {w w' : World} {v : Value} (h : TensAt B w v m L) (hk : KeepT w w') : TensAt B w' v m L := by
  obtain ⟨xs, ho, hx⟩ := h.row
  refine ⟨xs, ⟨ho.1, ?_⟩, fun i hi => ?_⟩
  · rcases ho.2 with hv | ⟨g, cap, cur, hv, hg, hh, hrest⟩
    · exact Or.inl hv
    · exact Or.inr ⟨g, cap, cur, hv, hg, hk.2 _ _ _ _ hh (by decide), hrest⟩
  · obtain ⟨o, l, c, h1, h2, h3⟩ := hx i hi
    exact ⟨o, l, c, h1, own_keep h2 hk (by decide), h3⟩
theorem TensAt.take {B m k L cap : Nat} {w : World} {o : Option Addr} (h : TensAt B w (.slice o m cap) m L) (hk : k ≤ m) : TensAt B w (.slice o k cap) k L := by
  obtain ⟨xs, ho, hx⟩ := h.row
  refine ⟨xs.take k, ⟨by rw [List.length_take, ho.1]; omega, ?_⟩, fun i hi => ?_⟩
  · rcases ho.2 with ⟨hv, h0⟩ | ⟨g, cap', cur, hv, hg, hh, hc1, hc2, hs, ht⟩
    · cases hv; exact Or.inl ⟨by rw [show k = 0 by omega], by omega⟩
    · cases hv
      refine Or.inr ⟨g, cap, cur, rfl, hg, hh, by omega, hc2, hs, ?_⟩
      rw [← ht, List.take_take]; congr 1; omega
  · obtain ⟨o', l, c, h1, h2, h3⟩ := hx i (by omega)
    exact ⟨o', l, c, by rw [List.getElem?_take, if_pos hi]; exact h1, h2, h3⟩
theorem TensAt.at {B m L cap k : Nat} {w : World} {o : Option Addr} (h : TensAt B w (.slice o m cap) m L) (hk : k < m) : ∃ g po lp cp, o = some ⟨g, 0, none⟩ ∧ w.cell? ⟨g, k, none⟩ = some (.slice po lp cp) ∧ RowAt w .u64 po lp cp (mag (ten k)) ∧ lp ≤ L ∧ m ≤ cap ∧ cap ≤ 9223372036854775807 := by
  obtain ⟨xs, ho, hx⟩ := h.row
  obtain ⟨po, lp, cp, h1, h2, h3⟩ := hx k hk
  rcases ho.2 with ⟨hv, h0⟩ | ⟨g, cap', cur, hv, hg, hh, hc1, hc2, hs, ht⟩
  · omega
  · cases hv
    refine ⟨g, po, lp, cp, rfl, ?_, h2.row, h3, hc1, hc2⟩
    rw [← ht, Nat.mul_one, List.getElem?_take, if_pos hk] at h1
    simp only [World.cell?, hh]
    simpa using h1
end Go.Proofs.YthjkdnlbdhhmbaaGreatDoor
/-
  HV, HW, HX.
-/
/- Walks: readDecimal. -/
namespace Go.Proofs.YthjkdnlbdhhmbaaGreatDoor
open Go.RowKit
set_option linter.unusedVariables false
set_option linter.unusedSimpArgs false
/-- k digits are read: m makes M; word and unit = 10^j hold the rest -/
structure ReadSt (d : ByteArray) (sz k j M W : Nat) : Prop where
  dig : ∀ i, i < k → 48 ≤ byteAt d i ∧ byteAt d i ≤ 57
  top : 0 < k → byteAt d 0 = 48 → sz ≤ 1
  jl : j ≤ 18
  wl : W < 10 ^ j
  eq : M * 10 ^ j + W = decVal d k
  last : k = d.size → j = 0
theorem ReadSt.len {d : ByteArray} {sz k j M W : Nat} (h : ReadSt d sz k j M W) (hk : k ≤ 1024) : (mag M).length ≤ 1024 := by
  have h1 : decVal d k < 10 ^ k := by
    have : ∀ i, i ≤ k → decVal d i < 10 ^ i := by
      intro i
      induction i with
      | zero => intro _; simp [decVal]
      | succ i ih =>
        intro hi
        have h2 := ih (by omega)
        have h3 := h.dig i (by omega)
        rw [decVal, Nat.pow_succ]; omega
    exact this k (Nat.le_refl _)
  have h2 : 10 ^ k ≤ 2 ^ (64 * k) := by rw [Nat.pow_mul]; exact Nat.pow_le_pow_left (by decide) _
  have h3 : M ≤ decVal d k := by
    rw [← h.eq]
    exact Nat.le_trans (Nat.le_mul_of_pos_right _ (Nat.pow_pos (by decide))) (Nat.le_add_right _ _)
  exact Nat.le_trans (two_len (l := 64 * k) (Nat.lt_of_le_of_lt h3 (Nat.lt_of_lt_of_le h1 h2)) (Nat.le_refl _)) hk
end Go.Proofs.YthjkdnlbdhhmbaaGreatDoor
/- Walks: readDecimal. -/
namespace Go.Proofs.YthjkdnlbdhhmbaaGreatDoor
open Go.RowKit
set_option linter.unusedVariables false
set_option linter.unusedSimpArgs false
end Go.Proofs.YthjkdnlbdhhmbaaGreatDoor
/- Walks: big's Parse. -/
namespace Go.Proofs.YthjkdnlbdhhmbaaGreatDoor
open Go.RowKit
set_option linter.unusedVariables false
set_option linter.unusedSimpArgs false
end Go.Proofs.YthjkdnlbdhhmbaaGreatDoor
/-
  IF, IG, IH.
-/
/- Walks: decimal, Text; the page's Text; a number's text is read as that number. -/
namespace Go.Proofs.YthjkdnlbdhhmbaaGreatDoor
open Go.RowKit
set_option linter.unusedVariables false
set_option linter.unusedSimpArgs false
end Go.Proofs.YthjkdnlbdhhmbaaGreatDoor
/- Walks: the page's Text. -/
namespace Go.Proofs.YthjkdnlbdhhmbaaGreatDoor
open Go.RowKit
set_option linter.unusedVariables false
set_option linter.unusedSimpArgs false
end Go.Proofs.YthjkdnlbdhhmbaaGreatDoor
/- A number's text is a text of digits, and tells that number. -/
namespace Go.Proofs.YthjkdnlbdhhmbaaGreatDoor
open Go.RowKit
set_option linter.unusedVariables false
set_option linter.unusedSimpArgs false
theorem Byt.left {xs ys : List Int} (h : Byt (xs ++ ys)) : Byt xs := fun x hx => h x (List.mem_append_left _ hx)
end Go.Proofs.YthjkdnlbdhhmbaaGreatDoor
/-
  Walks: texts of rationals. (gen/rtext.py)
-/
namespace Go.Proofs.YthjkdnlbdhhmbaaGreatDoor
open Go.RowKit
set_option linter.unusedVariables false
set_option linter.unusedSimpArgs false
theorem row_kept3 {w : World} {p : Option Addr} {m k r : Nat} {zs : List Int} {x y z : Value} {n9 : Bool} {o9 p9 : Option Addr} {l9 c9 m9 d9 : Nat} (hr : RowAt w .u64 p m k zs) (hf : Boxed3 w r n9 o9 l9 c9 p9 m9 d9) : RowAt (((w.setCell ⟨r, 0, none⟩ x).setCell ⟨r, 1, none⟩ y).setCell ⟨r, 2, none⟩ z) .u64 p m k zs := by
  obtain ⟨f0, f1, f2⟩ := hf
  refine ⟨hr.hlen, hr.hcap, hr.hnil, ?_⟩
  rcases hr.hat with h0 | ⟨b, off, h1, hlt, h2⟩
  · exact Or.inl h0
  · refine Or.inr ⟨b, off, h1, by simpa using hlt, fun t ht => ?_⟩
    have h3 := h2 t ht
    by_cases e : b = r
    · subst e
      have n0 : off + t ≠ 0 := fun e => by rw [e] at h3; rw [h3] at f0; cases f0
      have n1 : off + t ≠ 1 := fun e => by rw [e] at h3; rw [h3] at f1; cases f1
      have n2 : off + t ≠ 2 := fun e => by rw [e] at h3; rw [h3] at f2; cases f2
      rw [setCell_ne (fun e => n2 e.2), setCell_ne (fun e => n1 e.2), setCell_ne (fun e => n0 e.2)]; exact h3
    · rw [cell_off e, cell_off e, cell_off e]; exact h3
theorem int_kept3 {w : World} {n : Bool} {p : Option Addr} {m k r : Nat} {v : Int} {x y z : Value} {n9 : Bool} {o9 p9 : Option Addr} {l9 c9 m9 d9 : Nat} (h : IntAt w n p m k v) (hf : Boxed3 w r n9 o9 l9 c9 p9 m9 d9) : IntAt (((w.setCell ⟨r, 0, none⟩ x).setCell ⟨r, 1, none⟩ y).setCell ⟨r, 2, none⟩ z) n p m k v := ⟨h.sg, row_kept3 h.row hf⟩
theorem rat_kept {w : World} {neg : Bool} {ao bo : Option Addr} {l c lb cb r : Nat} {a : Rat} {x y z : Value} {n9 : Bool} {o9 p9 : Option Addr} {l9 c9 m9 d9 : Nat} (h : RatAt w neg ao l c bo lb cb a) (hf : Boxed3 w r n9 o9 l9 c9 p9 m9 d9) : RatAt (((w.setCell ⟨r, 0, none⟩ x).setCell ⟨r, 1, none⟩ y).setCell ⟨r, 2, none⟩ z) neg ao l c bo lb cb a :=
  ⟨int_kept3 h.num hf, row_kept3 h.den hf⟩
/-- the result to come -/
structure R1 (w W : World) : Prop where
  eq : W = w.alloc (.cells #[.bool false, .slice none 0 0, .slice none 0 0] 30)
  below : Below w.heap.size w W
  size : W.heap.size = w.heap.size + 1
  r : Fresh3 W w.heap.size
theorem R1.mk' (w : World) : ∃ W, R1 w W := ⟨_, rfl, (Below.refl _ _).alloc (Nat.le_refl _) _, by simp, ⟨fun j => by simp [go_sem], by simp [go_sem], by simp [go_sem], by simp [go_sem]⟩⟩
end Go.Proofs.YthjkdnlbdhhmbaaGreatDoor
/-
  Walks: the page's From.
-/
namespace Go.Proofs.YthjkdnlbdhhmbaaGreatDoor
open Go.RowKit
set_option linter.unusedVariables false
set_option linter.unusedSimpArgs false
/-- a rational, wherever it lies -/
def SomeR (w w' : World) (e : Ending) (r : Rat) : Prop := ∃ neg ao l c bo lb cb, e = .returned (.agg #[.bool neg, .slice ao l c, .slice bo lb cb]) ∧ RatAt w' neg ao l c bo lb cb r ∧ Below w.heap.size w w'
/-- a number handed in, a rational to come -/
structure IR2 (w W : World) (na : Bool) (ao : Option Addr) (la ca : Nat) : Prop where
  eq : W = (w.alloc (.cells #[.bool na, .slice ao la ca] 28)).alloc (.cells #[.bool false, .slice none 0 0, .slice none 0 0] 30)
  below : Below w.heap.size w W
  size : W.heap.size = w.heap.size + 2
  a : Boxed W w.heap.size na ao la ca
  r : Fresh3 W (w.heap.size + 1)
theorem IR2.mk' (w : World) (na : Bool) (ao : Option Addr) (la ca : Nat) : ∃ W, IR2 w W na ao la ca :=
  ⟨_, rfl, ((Below.refl _ _).alloc (Nat.le_refl _) _).alloc (by simp) _, by simp, ⟨by simp [go_sem], by simp [go_sem]⟩, ⟨fun j => by simp [go_sem], by simp [go_sem], by simp [go_sem], by simp [go_sem]⟩⟩
end Go.Proofs.YthjkdnlbdhhmbaaGreatDoor
/-
  Walks: how rationals stand to each other; sign, whole part, middle. (gen/rcmp.py)
-/
namespace Go.Proofs.YthjkdnlbdhhmbaaGreatDoor
open Go.RowKit
set_option linter.unusedVariables false
set_option linter.unusedSimpArgs false
theorem cmp_parts {n m : Int} {ad bd : Nat} (ha : 0 < ad) (hb : 0 < bd) (h : cmpI n 0 ≠ cmpI m 0 ∨ cmpI n 0 = 0) : cmpI (cmpI n 0) (cmpI m 0) = cmpI (n * (bd : Int)) (m * (ad : Int)) := by
  have p1 : ∀ {x : Int} {k : Nat}, 0 < k → 0 < x → 0 < x * (k : Int) := fun hk hx => Int.mul_pos hx (by omega)
  have p2 : ∀ {x : Int} {k : Nat}, 0 < k → x < 0 → x * (k : Int) < 0 := fun hk hx => Int.mul_neg_of_neg_of_pos hx (by omega)
  rcases Int.lt_trichotomy n 0 with h1 | h1 | h1 <;> rcases Int.lt_trichotomy m 0 with h2 | h2 | h2
  · exfalso; revert h; unfold cmpI; simp [h1, h2]
  · subst h2; have := p2 hb h1; unfold cmpI; simp [h1, this]
  · have := p2 hb h1; have := p1 ha h2; unfold cmpI; rw [if_pos (show n * (bd : Int) < m * (ad : Int) by omega), if_pos h1, if_neg (show ¬ m < 0 by omega), if_pos h2]; decide
  · subst h1; have := p2 ha h2; unfold cmpI; rw [if_pos h2, Int.zero_mul, if_neg (show ¬ 0 < m * (ad : Int) by omega), if_pos this]; decide
  · subst h1; subst h2; unfold cmpI; simp
  · subst h1; have := p1 ha h2; unfold cmpI; rw [Int.zero_mul, if_pos this, if_neg (show ¬ m < 0 by omega), if_pos h2]; decide
  · have := p1 hb h1; have := p2 ha h2; unfold cmpI; rw [if_neg (show ¬ n * (bd : Int) < m * (ad : Int) by omega), if_pos (show m * (ad : Int) < n * (bd : Int) by omega), if_neg (show ¬ n < 0 by omega), if_pos h1, if_pos h2]; decide
  · subst h2; have := p1 hb h1; unfold cmpI; rw [Int.zero_mul, if_neg (show ¬ n * (bd : Int) < 0 by omega), if_pos this, if_neg (show ¬ n < 0 by omega), if_pos h1]; decide
  · exfalso; revert h; unfold cmpI; rw [if_neg (show ¬ n < 0 by omega), if_pos h1, if_neg (show ¬ m < 0 by omega), if_pos h2]; decide
/-- how two rationals stand to each other -/
def cmpQ (a b : Rat) : Int := cmpI (a.num * (b.den : Int)) (b.num * (a.den : Int))
theorem cmpI_vals (n m : Int) : cmpI n m = -1 ∨ cmpI n m = 0 ∨ cmpI n m = 1 := by
  unfold cmpI
  split
  · exact Or.inl rfl
  · split
    · exact Or.inr (Or.inr rfl)
    · exact Or.inr (Or.inl rfl)
theorem isNaN_any (n : Int) (w : World) : Calls Tryz.prog 125 #[.int .i64 n] w fun e w' => e = .returned (.bool false) ∧ w' = w := by
  go_enter Tryz.func125, Tryz.ntmps125
  go_wp2
  go_ret
  exact ⟨by simp, rfl⟩
theorem compareInt_any (s t : Int) (w : World) (c : Int) (hc : cmpI s t = c) : Calls Tryz.prog 109 #[.int .i64 s, .int .i64 t] w fun e w' => e = .returned (.int .i64 c) ∧ w' = w := by
  rcases Int.lt_trichotomy s t with h | h | h
  · obtain rfl : c = -1 := by rw [← hc]; unfold cmpI; rw [if_pos h]
    clear hc
    go_enter Tryz.func109, Tryz.ntmps109
    go_wp2_with (go_at_call 125; refine (isNaN_any _ _).mono ?_; rintro e x ⟨rfl, hx⟩; replace hx := hx.symm; subst hx)
    go_ret
    exact ⟨rfl, rfl⟩
  · subst h
    obtain rfl : c = 0 := by rw [← hc]; unfold cmpI; rw [if_neg (by omega), if_neg (by omega)]
    clear hc
    go_enter Tryz.func109, Tryz.ntmps109
    go_wp2_with (go_at_call 125; refine (isNaN_any _ _).mono ?_; rintro e x ⟨rfl, hx⟩; replace hx := hx.symm; subst hx)
    go_ret
    exact ⟨rfl, rfl⟩
  · have h1 : ¬ s < t := by omega
    obtain rfl : c = 1 := by rw [← hc]; unfold cmpI; rw [if_neg h1, if_pos h]
    clear hc
    go_enter Tryz.func109, Tryz.ntmps109
    go_wp2_with (go_at_call 125; refine (isNaN_any _ _).mono ?_; rintro e x ⟨rfl, hx⟩; replace hx := hx.symm; subst hx)
    go_ret
    exact ⟨rfl, rfl⟩
set_option maxRecDepth 100000 in
set_option maxHeartbeats 4000000 in
theorem compare_rat (na nb : Bool) (ao po bo qo : Option Addr) (la ca lp cp lb cb lq cq : Nat) (a b : Rat) (w : World) (hx : RatAt w na ao la ca po lp cp a) (hy : RatAt w nb bo lb cb qo lq cq b) (ha : Sz a 10000) (hb : Sz b 10000) (c : Int) (hc : cmpQ a b = c) :
    Calls Tryz.prog 90 #[.agg #[.bool na, .slice ao la ca, .slice po lp cp], .agg #[.bool nb, .slice bo lb cb, .slice qo lq cq]] w fun e w' => e = .returned (.int .i64 c) ∧ Below w.heap.size w w' := by
  obtain ⟨W, hT⟩ := RTwo2.mk' w na nb ao po bo qo la ca lp cp lb cb lq cq
  have hsz := hT.size
  have HX : Hid (RatAt W na ao la ca po lp cp a ∧ RatAt W nb bo lb cb qo lq cq b ∧ Below w.heap.size w W) := ⟨hx.later hT.below, hy.later hT.below, hT.below⟩
  have hla : la ≤ 10000 := (hx.len ha).1
  have hlp : lp ≤ 10000 := (hx.len ha).2
  have hlb : lb ≤ 10000 := (hy.len hb).1
  have hlq : lq ≤ 10000 := (hy.len hb).2
  have KW : Hid (∀ w' : World, Below W.heap.size W w' → w'.cell? ⟨w.heap.size, 0, none⟩ = some (.bool na) ∧ w'.cell? ⟨w.heap.size, 1, none⟩ = some (.slice ao la ca) ∧ w'.cell? ⟨w.heap.size, 2, none⟩ = some (.slice po lp cp) ∧ w'.cell? ⟨w.heap.size + 1, 0, none⟩ = some (.bool nb) ∧ w'.cell? ⟨w.heap.size + 1, 1, none⟩ = some (.slice bo lb cb) ∧ w'.cell? ⟨w.heap.size + 1, 2, none⟩ = some (.slice qo lq cq)) := fun w' h => ⟨(h.cell (p := ⟨w.heap.size, 0, none⟩) (by show w.heap.size < _; omega)).trans hT.a.1, (h.cell (p := ⟨w.heap.size, 1, none⟩) (by show w.heap.size < _; omega)).trans hT.a.2.1, (h.cell (p := ⟨w.heap.size, 2, none⟩) (by show w.heap.size < _; omega)).trans hT.a.2.2, (h.cell (p := ⟨w.heap.size + 1, 0, none⟩) (by show w.heap.size + 1 < _; omega)).trans hT.b.1, (h.cell (p := ⟨w.heap.size + 1, 1, none⟩) (by show w.heap.size + 1 < _; omega)).trans hT.b.2.1, (h.cell (p := ⟨w.heap.size + 1, 2, none⟩) (by show w.heap.size + 1 < _; omega)).trans hT.b.2.2⟩
  obtain ⟨s, hs⟩ : ∃ s, cmpI a.num 0 = s := ⟨_, rfl⟩
  obtain ⟨t, ht⟩ : ∃ t, cmpI b.num 0 = t := ⟨_, rfl⟩
  have hs3 : s = -1 ∨ s = 0 ∨ s = 1 := hs ▸ cmpI_vals a.num 0
  have ht3 : t = -1 ∨ t = 0 ∨ t = 1 := ht ▸ cmpI_vals b.num 0
  have HC : Hid (cmpI a.num 0 = s ∧ cmpI b.num 0 = t ∧ cmpI (a.num * (b.den : Int)) (b.num * (a.den : Int)) = c) := ⟨hs, ht, hc⟩
  have HL : Hid ((mag (a.num * (b.den : Int)).natAbs).length ≤ 30000 ∧ (mag (b.num * (a.den : Int)).natAbs).length ≤ 30000) := by
    have h2 := mul_len a.num (b.den : Int)
    have h3 := mul_len b.num (a.den : Int)
    rw [Int.natAbs_natCast] at h2 h3
    have := ha.1; have := ha.2; have := hb.1; have := hb.2
    refine ⟨?_, ?_⟩ <;> omega
  clear hx hy ha hb hs ht hc
  go_enter Tryz.func90, Tryz.ntmps90
  go_upto_region 1 with fail
  rw [← hT.eq]
  clear hT
  have hzU : W.heap.size ≤ W.drew.heap.size := Nat.le_refl _
  have S0 : Step8 0 := ⟨trivial⟩
  go_region_held3 (fun w' => (w'.cell? ⟨w.heap.size, 0, none⟩ = some (.bool na) ∧ w'.cell? ⟨w.heap.size, 1, none⟩ = some (.slice ao la ca) ∧ w'.cell? ⟨w.heap.size, 2, none⟩ = some (.slice po lp cp) ∧ w'.cell? ⟨w.heap.size + 1, 0, none⟩ = some (.bool nb) ∧ w'.cell? ⟨w.heap.size + 1, 1, none⟩ = some (.slice bo lb cb) ∧ w'.cell? ⟨w.heap.size + 1, 2, none⟩ = some (.slice qo lq cq)))
    (with_reducible (first | exact KW.out _ (Below.refl _ _).drew | exact KW.out _ (by assumption) | (refine KW.out _ ?_; (repeat (first | refine below_alloc ?_ (Nat.le_refl _) | refine Below.drew ?_ | refine below_set ?_ (by omega))); (first | exact hbF2 | exact hbF1 | exact Below.refl _ _))))
    (first
      | (have _t := S0; go_at_call 108; refine with_held (S := fun w9 => Below W.heap.size W w9) (by show Below _ _ _; with_reducible ((repeat (first | refine below_alloc ?_ (Nat.le_refl _) | refine Below.drew ?_ | refine below_set ?_ (by omega))); (first | exact hbF2 | exact hbF1 | exact Below.refl _ _))) (fun hS => ?_); refine (bsign_any na ao la ca a.num _ (HX.out.1.num.later hS) (by omega) s HC.out.1).mono ?_; rintro e f1 ⟨rfl, hb⟩; skip; have hbF1 : Below W.heap.size W f1 := bnext hS hb; have hzF1 := hbF1.size; clear hS hb S0; have S1 : Step8 1 := ⟨trivial⟩)
      | (have _t := S1; go_at_call 108; refine with_held (S := fun w9 => Below W.heap.size W w9) (by show Below _ _ _; with_reducible ((repeat (first | refine below_alloc ?_ (Nat.le_refl _) | refine Below.drew ?_ | refine below_set ?_ (by omega))); (first | exact hbF2 | exact hbF1 | exact Below.refl _ _))) (fun hS => ?_); refine with_held (S := fun w9 => Below f1.heap.size f1 w9) (by show Below _ _ _; with_reducible ((repeat (refine below_alloc ?_ (Nat.le_refl _))); exact Below.refl _ _)) (fun hS2 => ?_); refine (bsign_any nb bo lb cb b.num _ (HX.out.2.1.num.later hS) (by omega) t HC.out.2.1).mono ?_; rintro e f2 ⟨rfl, hb⟩; skip; have hbF2 : Below W.heap.size W f2 := bnext hS hb; have hzF2 := hbF2.size; clear hS hb S1; clear hS2; skip))
  obtain ⟨U, hU⟩ : ∃ U, U = f2 := ⟨_, rfl⟩
  subst hU
  have HU : Hid (RatAt U na ao la ca po lp cp a ∧ RatAt U nb bo lb cb qo lq cq b ∧ Below w.heap.size w U) := ⟨HX.out.1.later hbF2, HX.out.2.1.later hbF2, bnext HX.out.2.2 hbF2⟩
  have KU : Hid (∀ w' : World, Below U.heap.size U w' → w'.cell? ⟨w.heap.size, 0, none⟩ = some (.bool na) ∧ w'.cell? ⟨w.heap.size, 1, none⟩ = some (.slice ao la ca) ∧ w'.cell? ⟨w.heap.size, 2, none⟩ = some (.slice po lp cp) ∧ w'.cell? ⟨w.heap.size + 1, 0, none⟩ = some (.bool nb) ∧ w'.cell? ⟨w.heap.size + 1, 1, none⟩ = some (.slice bo lb cb) ∧ w'.cell? ⟨w.heap.size + 1, 2, none⟩ = some (.slice qo lq cq)) := fun w' h => KW.out w' (bnext hbF2 h)
  clear HX hbF2 hzF2 hbF1 hzF1 KW
  by_cases hq : s ≠ t ∨ s = 0
  · as_aux_lemma =>
    have HR : Hid (cmpI s t = c) := by
      have h1 := cmp_parts (n := a.num) (m := b.num) (ad := a.den) (bd := b.den) a.den_pos b.den_pos (by rw [HC.out.1, HC.out.2.1]; exact hq)
      rw [HC.out.1, HC.out.2.1, HC.out.2.2] at h1; exact h1
    clear HC
    rcases hs3 with rfl | rfl | rfl <;> rcases ht3 with rfl | rfl | rfl
    all_goals first
      | (exfalso; revert hq; decide)
      | (clear hq; go_wp2_with (go_at_call 109; refine (compareInt_any _ _ _ c HR.out).mono ?_; rintro e x ⟨rfl, hx⟩; replace hx := hx.symm; subst hx); go_ret; exact ⟨rfl, HU.out.2.2⟩)
  · as_aux_lemma =>
    obtain ⟨hst, hs0⟩ : s = t ∧ s ≠ 0 := ⟨Decidable.byContradiction fun e => hq (Or.inl e), fun e => hq (Or.inr e)⟩
    subst hst
    have hs0' : (s == 0) = false := by simpa using hs0
    clear hq hs3 ht3 hs0
    go_upto_region 4 with fail
    have hzU : U.heap.size ≤ U.drew.heap.size := Nat.le_refl _
    have S0 : Step8 0 := ⟨trivial⟩
    go_region_held3 (fun w' => (w'.cell? ⟨w.heap.size, 0, none⟩ = some (.bool na) ∧ w'.cell? ⟨w.heap.size, 1, none⟩ = some (.slice ao la ca) ∧ w'.cell? ⟨w.heap.size, 2, none⟩ = some (.slice po lp cp) ∧ w'.cell? ⟨w.heap.size + 1, 0, none⟩ = some (.bool nb) ∧ w'.cell? ⟨w.heap.size + 1, 1, none⟩ = some (.slice bo lb cb) ∧ w'.cell? ⟨w.heap.size + 1, 2, none⟩ = some (.slice qo lq cq)))
      (with_reducible (first | exact KU.out _ (Below.refl _ _).drew | exact KU.out _ (by assumption) | (refine KU.out _ ?_; (repeat (first | refine below_alloc ?_ (Nat.le_refl _) | refine Below.drew ?_ | refine below_set ?_ (by omega))); (first | exact hbF3 | exact hbF2 | exact hbF1 | exact Below.refl _ _))))
      (first
        | (have _t := S0; go_at_call 110; refine with_held (S := fun w9 => Below U.heap.size U w9) (by show Below _ _ _; with_reducible ((repeat (first | refine below_alloc ?_ (Nat.le_refl _) | refine Below.drew ?_ | refine below_set ?_ (by omega))); (first | exact hbF3 | exact hbF2 | exact hbF1 | exact Below.refl _ _))) (fun hS => ?_); refine (timesNat_any na ao qo la ca lq cq a.num b.den _ (HU.out.1.num.later hS) (HU.out.2.1.den.later hS) (by omega) (by omega)).mono ?_; rintro e f1 ⟨n3, o3, l3, c3, rfl, hs, ho3, hb⟩; have H1 : Hid (IntAt f1 n3 o3 l3 c3 (a.num * (b.den : Int))) := ho3.int hs; have hl3 : l3 ≤ 30000 := (by rw [ho3.row.hlen]; exact HL.out.1); clear hs ho3; have hbF1 : Below U.heap.size U f1 := bnext hS hb; have hzF1 := hbF1.size; clear hS hb S0; have S1 : Step8 1 := ⟨trivial⟩)
        | (have _t := S1; go_at_call 110; refine with_held (S := fun w9 => Below U.heap.size U w9) (by show Below _ _ _; with_reducible ((repeat (first | refine below_alloc ?_ (Nat.le_refl _) | refine Below.drew ?_ | refine below_set ?_ (by omega))); (first | exact hbF3 | exact hbF2 | exact hbF1 | exact Below.refl _ _))) (fun hS => ?_); refine with_held (S := fun w9 => Below f1.heap.size f1 w9) (by show Below _ _ _; with_reducible ((repeat (refine below_alloc ?_ (Nat.le_refl _))); exact Below.refl _ _)) (fun hS2 => ?_); refine (timesNat_any nb bo po lb cb lp cp b.num a.den _ (HU.out.2.1.num.later hS) (HU.out.1.den.later hS) (by omega) (by omega)).mono ?_; rintro e f2 ⟨n4, o4, l4, c4, rfl, hs, ho4, hb⟩; have H2 : Hid (IntAt f2 n3 o3 l3 c3 (a.num * (b.den : Int)) ∧ IntAt f2 n4 o4 l4 c4 (b.num * (a.den : Int))) := ⟨H1.out.later (bnext hS2 hb), ho4.int hs⟩; have hl4 : l4 ≤ 30000 := (by rw [ho4.row.hlen]; exact HL.out.2); clear hs ho4; have hbF2 : Below U.heap.size U f2 := bnext hS hb; have hzF2 := hbF2.size; clear hS hb S1; clear hS2; have S2 : Step8 2 := ⟨trivial⟩)
        | (have _t := S2; go_at_call 93; refine with_held (S := fun w9 => Below U.heap.size U w9) (by show Below _ _ _; with_reducible ((repeat (first | refine below_alloc ?_ (Nat.le_refl _) | refine Below.drew ?_ | refine below_set ?_ (by omega))); (first | exact hbF3 | exact hbF2 | exact hbF1 | exact Below.refl _ _))) (fun hS => ?_); refine with_held (S := fun w9 => Below f2.heap.size f2 w9) (by show Below _ _ _; with_reducible ((repeat (refine below_alloc ?_ (Nat.le_refl _))); exact Below.refl _ _)) (fun hS2 => ?_); refine (bcmp_any n3 n4 o3 o4 l3 c3 l4 c4 _ _ _ (H2.out.1.later hS2) (H2.out.2.later hS2) (by omega) (by omega) c HC.out.2.2).mono ?_; rintro e f3 ⟨rfl, hb⟩; skip; have hbF3 : Below U.heap.size U f3 := bnext hS hb; have hzF3 := hbF3.size; clear hS hb S2; clear hS2; skip))
    all_goals go_wp2
    go_ret
    exact ⟨rfl, bnext HU.out.2.2 hbF3⟩
set_option maxRecDepth 100000 in
set_option maxHeartbeats 4000000 in
theorem cmp_rat (na nb : Bool) (ao po bo qo : Option Addr) (la ca lp cp lb cb lq cq : Nat) (a b : Rat) (w : World) (hx : RatAt w na ao la ca po lp cp a) (hy : RatAt w nb bo lb cb qo lq cq b) (ha : Sz a 10000) (hb : Sz b 10000) (hT0 : TabAt 0 Lib.deBruijn64tab w) (c : Int) (hc : cmpQ a b = c) :
    Calls Tryz.prog 58 #[.agg #[.bool na, .slice ao la ca, .slice po lp cp], .agg #[.bool nb, .slice bo lb cb, .slice qo lq cq]] w fun e w' => e = .returned (.int .i64 c) ∧ Below w.heap.size w w' := by
  obtain ⟨W, hT⟩ := RTwo2.mk' w na nb ao po bo qo la ca lp cp lb cb lq cq
  have hsz := hT.size
  have HX : Hid (RatAt W na ao la ca po lp cp a ∧ RatAt W nb bo lb cb qo lq cq b ∧ TabAt 0 Lib.deBruijn64tab W) := ⟨hx.later hT.below, hy.later hT.below, tab_later hT0 hT.below⟩
  have hla : la ≤ 10000 := (hx.len ha).1
  have hlp : lp ≤ 10000 := (hx.len ha).2
  have hlb : lb ≤ 10000 := (hy.len hb).1
  have hlq : lq ≤ 10000 := (hy.len hb).2
  have HC : Hid (cmpQ a b = c ∧ Sz a 10000 ∧ Sz b 10000) := ⟨hc, ha, hb⟩
  clear hx hy ha hb hc hT0
  go_enter Tryz.func58, Tryz.ntmps58
  go_wp2_with (first
    | (go_at_call 89; rw [← hT.eq]; refine (checkBoth_good na nb ao po bo qo la ca lp cp lb cb lq cq a b _ HX.out.1 HX.out.2.1 (by omega) (by omega) (by omega) (by omega) HX.out.2.2).mono ?_; rintro e w1 ⟨rfl, hb1⟩; obtain ⟨p0, p1, p2⟩ := hT.a.later hb1 (by omega); obtain ⟨q0, q1, q2⟩ := hT.b.later hb1 (by omega))
    | (go_at_call 90; refine (compare_rat na nb ao po bo qo la ca lp cp lb cb lq cq a b _ (HX.out.1.later hb1) (HX.out.2.1.later hb1) HC.out.2.1 HC.out.2.2 c HC.out.1).mono ?_; rintro e w2 ⟨rfl, hb2⟩))
  go_ret
  exact ⟨rfl, bnext hT.below (bnext hb1 hb2)⟩
end Go.Proofs.YthjkdnlbdhhmbaaGreatDoor
/-
  Lists of pairs of rationals; rationals in variables; what wakes.
-/
namespace Go.Proofs.YthjkdnlbdhhmbaaGreatDoor
open Go.RowKit
set_option linter.unusedVariables false
set_option linter.unusedSimpArgs false
/-- two rationals and a count lie in block b from o on: whatever they are -/
def ElemR (w : World) (b o : Nat) : Prop :=
  ∃ (na nb : Bool) (ao po bo qo : Option Addr) (la ca lp cp lb cb lq cq : Nat) (N : Int) (x d y f : List Int),
    (w.cell? ⟨b, o, none⟩ = some (.bool na) ∧ w.cell? ⟨b, o + 1, none⟩ = some (.slice ao la ca) ∧ w.cell? ⟨b, o + 2, none⟩ = some (.slice po lp cp) ∧ w.cell? ⟨b, o + 3, none⟩ = some (.bool nb) ∧ w.cell? ⟨b, o + 4, none⟩ = some (.slice bo lb cb) ∧ w.cell? ⟨b, o + 5, none⟩ = some (.slice qo lq cq) ∧ w.cell? ⟨b, o + 6, none⟩ = some (.int .i64 N)) ∧
    RowAt w .u64 ao la ca x ∧ Wd 18446744073709551616 x ∧ RowAt w .u64 po lp cp d ∧ Wd 18446744073709551616 d ∧ RowAt w .u64 bo lb cb y ∧ Wd 18446744073709551616 y ∧ RowAt w .u64 qo lq cq f ∧ Wd 18446744073709551616 f ∧ -9223372036854775808 ≤ N ∧ N ≤ 9223372036854775807
theorem ElemR.later {w w' : World} {b o : Nat} (h : ElemR w b o) (hb : Below w.heap.size w w') (hlt : b < w.heap.size) : ElemR w' b o := by
  obtain ⟨na, nb, ao, po, bo, qo, la, ca, lp, cp, lb, cb, lq, cq, N, x, d, y, f, ⟨h0, h1, h2, h3, h4, h5, h6⟩, r1, w1, r2, w2, r3, w3, r4, w4, hn⟩ := h
  exact ⟨na, nb, ao, po, bo, qo, la, ca, lp, cp, lb, cb, lq, cq, N, x, d, y, f, ⟨(hb.cell (p := ⟨b, o, none⟩) hlt).trans h0, (hb.cell (p := ⟨b, o + 1, none⟩) hlt).trans h1, (hb.cell (p := ⟨b, o + 2, none⟩) hlt).trans h2, (hb.cell (p := ⟨b, o + 3, none⟩) hlt).trans h3, (hb.cell (p := ⟨b, o + 4, none⟩) hlt).trans h4, (hb.cell (p := ⟨b, o + 5, none⟩) hlt).trans h5, (hb.cell (p := ⟨b, o + 6, none⟩) hlt).trans h6⟩, r1.later hb, w1, r2.later hb, w2, r3.later hb, w3, r4.later hb, w4, hn⟩
/-- a pair in a variable of its own -/
def Boxed7 (W : World) (r : Nat) (na nb : Bool) (ao po bo qo : Option Addr) (la ca lp cp lb cb lq cq : Nat) (N : Int) : Prop := W.cell? ⟨r, 0, none⟩ = some (.bool na) ∧ W.cell? ⟨r, 1, none⟩ = some (.slice ao la ca) ∧ W.cell? ⟨r, 2, none⟩ = some (.slice po lp cp) ∧ W.cell? ⟨r, 3, none⟩ = some (.bool nb) ∧ W.cell? ⟨r, 4, none⟩ = some (.slice bo lb cb) ∧ W.cell? ⟨r, 5, none⟩ = some (.slice qo lq cq) ∧ W.cell? ⟨r, 6, none⟩ = some (.int .i64 N)
theorem Boxed7.later {W w2 : World} {B r : Nat} {na nb : Bool} {ao po bo qo : Option Addr} {la ca lp cp lb cb lq cq : Nat} {N : Int} (k : Boxed7 W r na nb ao po bo qo la ca lp cp lb cb lq cq N) (h : Below B W w2) (hr : r < B) : Boxed7 w2 r na nb ao po bo qo la ca lp cp lb cb lq cq N :=
  ⟨(h.cell (p := ⟨r, 0, none⟩) hr).trans k.1, (h.cell (p := ⟨r, 1, none⟩) hr).trans k.2.1, (h.cell (p := ⟨r, 2, none⟩) hr).trans k.2.2.1, (h.cell (p := ⟨r, 3, none⟩) hr).trans k.2.2.2.1, (h.cell (p := ⟨r, 4, none⟩) hr).trans k.2.2.2.2.1, (h.cell (p := ⟨r, 5, none⟩) hr).trans k.2.2.2.2.2.1, (h.cell (p := ⟨r, 6, none⟩) hr).trans k.2.2.2.2.2.2⟩
/-- a rational in a variable of its own -/
structure RVar (W : World) (r : Nat) (n : Bool) (o : Option Addr) (l c : Nat) (p : Option Addr) (m d : Nat) (a : Rat) : Prop where
  box : Boxed3 W r n o l c p m d
  rat : RatAt W n o l c p m d a
  lt : r < W.heap.size
theorem RVar.later {W w' : World} {r : Nat} {n : Bool} {o p : Option Addr} {l c m d : Nat} {a : Rat} (h : RVar W r n o l c p m d a) (hb : Below W.heap.size W w') : RVar w' r n o l c p m d a :=
  ⟨h.box.later hb h.lt, h.rat.later hb, Nat.lt_of_lt_of_le h.lt hb.size⟩
theorem RVar.new {W y : World} {n : Bool} {o p : Option Addr} {l c m d : Nat} {a : Rat} (hb : Below W.heap.size W y) (h : RatAt y n o l c p m d a) :
    Hid (RVar (y.alloc (.cells #[.bool n, .slice o l c, .slice p m d] 30)) y.heap.size n o l c p m d a ∧ Below W.heap.size W (y.alloc (.cells #[.bool n, .slice o l c, .slice p m d] 30)) ∧ Below y.heap.size y (y.alloc (.cells #[.bool n, .slice o l c, .slice p m d] 30))) := by
  have h1 : Below y.heap.size y (y.alloc (.cells #[.bool n, .slice o l c, .slice p m d] 30)) := (Below.refl _ _).alloc (Nat.le_refl _) _
  exact ⟨⟨⟨by simp [go_sem], by simp [go_sem], by simp [go_sem]⟩, h.later h1, by simp⟩, below_alloc hb (Nat.le_refl _), h1⟩
end Go.Proofs.YthjkdnlbdhhmbaaGreatDoor
/-
  Walks: intervals that are some: Check, checkBoth, Has; the lesser and the greater of two. (gen/span.py)
-/
namespace Go.Proofs.YthjkdnlbdhhmbaaGreatDoor
open Go.RowKit
set_option linter.unusedVariables false
set_option linter.unusedSimpArgs false
set_option maxRecDepth 100000 in
set_option maxHeartbeats 4000000 in
theorem scheck_good (n1 n2 : Bool) (o1 p1 o2 p2 : Option Addr) (l1 c1 m1 k1 l2 c2 m2 k2 : Nat) (a b : Rat) (w : World) (hx : RatAt w n1 o1 l1 c1 p1 m1 k1 a) (hy : RatAt w n2 o2 l2 c2 p2 m2 k2 b) (ha : Sz a 10000) (hb : Sz b 10000) (hc : cmpQ a b ≤ 0) (hT0 : TabAt 0 Lib.deBruijn64tab w) :
    Calls Tryz.prog 30 #[.agg #[.bool n1, .slice o1 l1 c1, .slice p1 m1 k1, .bool n2, .slice o2 l2 c2, .slice p2 m2 k2]] w fun e w' => e = .returned (.int .i64 0) ∧ Below w.heap.size w w' := by
  obtain ⟨W, hW, hsz, hbW, hA⟩ := enter1 w [.bool n1, .slice o1 l1 c1, .slice p1 m1 k1, .bool n2, .slice o2 l2 c2, .slice p2 m2 k2] 32
  have HX : Hid (RatAt W n1 o1 l1 c1 p1 m1 k1 a ∧ RatAt W n2 o2 l2 c2 p2 m2 k2 b ∧ TabAt 0 Lib.deBruijn64tab W) := ⟨hx.later hbW, hy.later hbW, tab_later hT0 hbW⟩
  have hl1 : l1 ≤ 10000 := (hx.len ha).1
  have hm1 : m1 ≤ 10000 := (hx.len ha).2
  have hl2 : l2 ≤ 10000 := (hy.len hb).1
  have hm2 : m2 ≤ 10000 := (hy.len hb).2
  have HC : Hid (Sz a 10000 ∧ Sz b 10000) := ⟨ha, hb⟩
  obtain ⟨c, hc1⟩ : ∃ c, cmpQ a b = c := ⟨_, rfl⟩
  have HCC : Hid (cmpQ a b = c) := hc1
  have hc0 : ¬ (0 : Int) < c := by omega
  clear hx hy ha hb hc hc1 hT0
  go_enter Tryz.func30, Tryz.ntmps30
  go_wp2_with (first
    | (go_at_call 28; have _t := hb1; refine (rcheck_good n2 o2 p2 l2 c2 m2 k2 b _ (HX.out.2.1.later hb1) (by omega) (by omega) (tab_later HX.out.2.2 hb1)).mono ?_; rintro e w2 ⟨rfl, hb2'⟩; have hb2 := bnext hb1 hb2'; clear hb2' u0 u1 u2 u3 u4 u5 hb1; have ub := hA.later hb2 (by omega); have u0 := ub.1 0 _ rfl; have u1 := ub.1 1 _ rfl; have u2 := ub.1 2 _ rfl; have u3 := ub.1 3 _ rfl; have u4 := ub.1 4 _ rfl; have u5 := ub.1 5 _ rfl; clear ub)
    | (go_at_call 28; rw [← hW]; refine (rcheck_good n1 o1 p1 l1 c1 m1 k1 a _ HX.out.1 (by omega) (by omega) HX.out.2.2).mono ?_; rintro e w1 ⟨rfl, hb1⟩; have ub := hA.later hb1 (by omega); have u0 := ub.1 0 _ rfl; have u1 := ub.1 1 _ rfl; have u2 := ub.1 2 _ rfl; have u3 := ub.1 3 _ rfl; have u4 := ub.1 4 _ rfl; have u5 := ub.1 5 _ rfl; clear ub)
    | (go_at_call 58; refine (cmp_rat n1 n2 o1 p1 o2 p2 l1 c1 m1 k1 l2 c2 m2 k2 a b _ (HX.out.1.later hb2) (HX.out.2.1.later hb2) HC.out.1 HC.out.2 (tab_later HX.out.2.2 hb2) c HCC.out).mono ?_; rintro e w3 ⟨rfl, hb3⟩))
  go_ret
  exact ⟨rfl, bnext hbW (bnext hb2 hb3)⟩
/-- the lesser, the greater of two -/
def minQ (a b : Rat) : Rat := if cmpQ b a < 0 then b else a
def maxQ (a b : Rat) : Rat := if 0 < cmpQ b a then b else a
end Go.Proofs.YthjkdnlbdhhmbaaGreatDoor
/-
  Walks: whole parts; whole numbers as rationals; middles. (gen/rfloor.py)
-/
namespace Go.Proofs.YthjkdnlbdhhmbaaGreatDoor
open Go.RowKit
set_option linter.unusedVariables false
set_option linter.unusedSimpArgs false
set_option maxRecDepth 100000 in
set_option maxHeartbeats 4000000 in
theorem rclone_any (neg : Bool) (ao : Option Addr) (len cap : Nat) (v : Int) (w : World) (hx : IntAt w neg ao len cap v) (hl : len ≤ 1073741824) :
    Calls Tryz.prog 105 #[.agg #[.bool neg, .slice ao len cap]] w fun e w' => NewInt w w' e v := by
  obtain ⟨W, hT⟩ := One2.mk' w neg ao len cap
  have hsz := hT.size
  have HX : Hid (IntAt W neg ao len cap v) := hx.later hT.below
  have KW : Hid (∀ w' : World, Below W.heap.size W w' → w'.cell? ⟨w.heap.size, 0, none⟩ = some (.bool neg) ∧ w'.cell? ⟨w.heap.size, 1, none⟩ = some (.slice ao len cap)) := fun w' h => ⟨(h.cell (p := ⟨w.heap.size, 0, none⟩) (by show w.heap.size < _; omega)).trans hT.a.1, (h.cell (p := ⟨w.heap.size, 1, none⟩) (by show w.heap.size < _; omega)).trans hT.a.2⟩
  have KS : Hid (∀ X : World, Below W.heap.size W X → ∀ x y, (fun w' : World => w'.cell? ⟨w.heap.size, 0, none⟩ = some (.bool neg) ∧ w'.cell? ⟨w.heap.size, 1, none⟩ = some (.slice ao len cap)) ((X.setCell ⟨w.heap.size + 1, 0, none⟩ x).setCell ⟨w.heap.size + 1, 1, none⟩ y)) := fun X h x y => by
    obtain ⟨h1, h2⟩ := KW.out X h
    (try dsimp only)
    rw [cell_off (by omega), cell_off (by omega), cell_off (by omega), cell_off (by omega)]
    exact ⟨h1, h2⟩
  have HF : Hid (Fresh W (w.heap.size + 1) ∧ Below w.heap.size w W) := ⟨hT.r, hT.below⟩
  clear hx
  go_enter Tryz.func105, Tryz.ntmps105
  go_upto_region 1 with fail
  rw [← hT.eq]
  clear hT
  have hzU : W.heap.size ≤ W.drew.heap.size := Nat.le_refl _
  have S0 : Step8 0 := ⟨trivial⟩
  go_region_held3 (fun w' => (w'.cell? ⟨w.heap.size, 0, none⟩ = some (.bool neg) ∧ w'.cell? ⟨w.heap.size, 1, none⟩ = some (.slice ao len cap)))
    (with_reducible (first | exact KS.out _ hbF1 _ _ | exact KW.out _ (Below.refl _ _).drew | exact KW.out _ (by assumption) | (refine KW.out _ ?_; (repeat (first | refine below_alloc ?_ (Nat.le_refl _) | refine Below.drew ?_ | refine below_set ?_ (by omega))); (first | exact hbF1 | exact Below.refl _ _))))
    (first
      | (have _t := S0; go_at_call 107; refine with_held (S := fun w9 => Below W.heap.size W w9) (by show Below _ _ _; with_reducible ((repeat (first | refine below_alloc ?_ (Nat.le_refl _) | refine Below.drew ?_ | refine below_set ?_ (by omega))); (first | exact hbF1 | exact Below.refl _ _))) (fun hS => ?_); refine (cloneNat_any ao len cap v.natAbs _ (HX.out.row.later hS) hl).mono ?_; rintro e f1 ⟨o1, l1, c1, rfl, ho, hb⟩; have H1 : Hid (Own W.heap.size f1 .u64 60 o1 l1 c1 (mag v.natAbs) ∧ Below W.heap.size W f1) := ⟨ho.mono hS.size, bnext hS hb⟩; clear ho; obtain ⟨k5, k2, k3⟩ := HF.out.1.later (bnext hS hb) (by omega); have hbF1 : Below W.heap.size W f1 := bnext hS hb; have hzF1 := hbF1.size; clear hS hb S0; skip))
  all_goals go_wp2
  exact bodyPost_ret (v := .agg #[.bool neg, .slice o1 l1 c1]) (by simp [results, Tryz.results105, go_sem, k2, k3]) rfl
    ⟨_, _, _, _, rfl, HX.out.sg, (H1.out.1.store (by omega) _ _).mono (by omega), below_store (bnext HF.out.2 H1.out.2) (by omega) _ _⟩
/-- a rational handed in, two numbers to come -/
structure RI3 (w W : World) (na : Bool) (ao po : Option Addr) (la ca lp cp : Nat) : Prop where
  eq : W = ((w.alloc (.cells #[.bool na, .slice ao la ca, .slice po lp cp] 30)).alloc (.cells #[.bool false, .slice none 0 0] 28)).alloc (.cells #[.bool false, .slice none 0 0] 28)
  below : Below w.heap.size w W
  size : W.heap.size = w.heap.size + 3
  a : Boxed3 W w.heap.size na ao la ca po lp cp
  r : Fresh W (w.heap.size + 1)
  q : Fresh W (w.heap.size + 1 + 1)
theorem RI3.mk' (w : World) (na : Bool) (ao po : Option Addr) (la ca lp cp : Nat) : ∃ W, RI3 w W na ao po la ca lp cp :=
  ⟨_, rfl, (((Below.refl _ _).alloc (Nat.le_refl _) _).alloc (by simp) _).alloc (by simp; omega) _, by simp, ⟨by simp [go_sem], by simp [go_sem], by simp [go_sem]⟩, ⟨fun j => by simp [go_sem], by simp [go_sem], by simp [go_sem]⟩, ⟨fun j => by simp [go_sem], by simp [go_sem], by simp [go_sem]⟩⟩
/-- a rational handed in, a number to come -/
structure RI2 (w W : World) (na : Bool) (ao po : Option Addr) (la ca lp cp : Nat) : Prop where
  eq : W = (w.alloc (.cells #[.bool na, .slice ao la ca, .slice po lp cp] 30)).alloc (.cells #[.bool false, .slice none 0 0] 28)
  below : Below w.heap.size w W
  size : W.heap.size = w.heap.size + 2
  a : Boxed3 W w.heap.size na ao la ca po lp cp
  r : Fresh W (w.heap.size + 1)
theorem RI2.mk' (w : World) (na : Bool) (ao po : Option Addr) (la ca lp cp : Nat) : ∃ W, RI2 w W na ao po la ca lp cp :=
  ⟨_, rfl, ((Below.refl _ _).alloc (Nat.le_refl _) _).alloc (by simp) _, by simp, ⟨by simp [go_sem], by simp [go_sem], by simp [go_sem]⟩, ⟨fun j => by simp [go_sem], by simp [go_sem], by simp [go_sem]⟩⟩
def half2 : Rat := ⟨1, 2, by decide, by decide⟩
theorem sz_half2 : Sz half2 1 := by unfold Sz; decide
theorem half2_twice : half2 + half2 = 1 := by
  obtain ⟨h1, h2⟩ := radd_parts half2 half2 2 (by decide)
  exact Rat.ext (h1.trans (by decide)) (h2.trans (by decide))
end Go.Proofs.YthjkdnlbdhhmbaaGreatDoor
