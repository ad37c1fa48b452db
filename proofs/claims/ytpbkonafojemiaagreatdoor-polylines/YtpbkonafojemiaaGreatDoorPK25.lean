/-
  A pack of walks and facts: RG, RH, HU, HZ, IE, HX, IH, RK, RPa, SA, SOa.
-/
import Derived.Test.YtpbkonafojemiaaGreatDoorPK08
import Derived.Test.YtpbkonafojemiaaGreatDoorPK10
import Derived.Test.YtpbkonafojemiaaGreatDoorPK13
import Derived.Test.YtpbkonafojemiaaGreatDoorPK16
import Derived.Test.YtpbkonafojemiaaGreatDoorPK18
import Derived.Deep.DeepCutAuto
import Derived.Deep.RegionHeld3
import Derived.Laws.BytesArg
import Derived.Shelf.Strconv.Itoa1
import Derived.Shelf.Strconv.Itoa2
import Derived.Lib.ItoaMem
import Derived.Lib.AppendIntMem
import Derived.Shelf.Strings.Repeat
import Derived.Lib.AppendStr
import Derived.Laws.Strings
import Derived.Shelf.Strings.Prefix
import Derived.Shelf.Strings.Search1
import Derived.Lib.IndexLaws
set_option maxRecDepth 100000
set_option maxHeartbeats 40000000
set_option linter.unusedVariables false
set_option linter.unusedSimpArgs false
namespace Go.Proofs.YtpbkonafojemiaaGreatDoor
open Go.RowKit
structure ROne1 (w W : World) (na : Bool) (ao po : Option Addr) (la ca lp cp : Nat) : Prop where
  eq : W = w.alloc (.cells #[.bool na, .slice ao la ca, .slice po lp cp] 30)
  below : Below w.heap.size w W
  size : W.heap.size = w.heap.size + 1
  a : Boxed3 W w.heap.size na ao la ca po lp cp
theorem ROne1.mk' (w : World) (na : Bool) (ao po : Option Addr) (la ca lp cp : Nat) : ∃ W, ROne1 w W na ao po la ca lp cp :=
  ⟨_, rfl, (Below.refl _ _).alloc (Nat.le_refl _) _, by simp, ⟨by simp [go_sem], by simp [go_sem], by simp [go_sem]⟩⟩
structure ROne2 (w W : World) (na : Bool) (ao po : Option Addr) (la ca lp cp : Nat) : Prop where
  eq : W = (w.alloc (.cells #[.bool na, .slice ao la ca, .slice po lp cp] 30)).alloc (.cells #[.bool false, .slice none 0 0, .slice none 0 0] 30)
  below : Below w.heap.size w W
  size : W.heap.size = w.heap.size + 2
  a : Boxed3 W w.heap.size na ao la ca po lp cp
  r : Fresh3 W (w.heap.size + 1)
theorem ROne2.mk' (w : World) (na : Bool) (ao po : Option Addr) (la ca lp cp : Nat) : ∃ W, ROne2 w W na ao po la ca lp cp :=
  ⟨_, rfl, ((Below.refl _ _).alloc (Nat.le_refl _) _).alloc (by simp) _, by simp, ⟨by simp [go_sem], by simp [go_sem], by simp [go_sem]⟩, ⟨fun j => by simp [go_sem], by simp [go_sem], by simp [go_sem], by simp [go_sem]⟩⟩
structure RTwo2 (w W : World) (na nb : Bool) (ao po bo qo : Option Addr) (la ca lp cp lb cb lq cq : Nat) : Prop where
  eq : W = (w.alloc (.cells #[.bool na, .slice ao la ca, .slice po lp cp] 30)).alloc (.cells #[.bool nb, .slice bo lb cb, .slice qo lq cq] 30)
  below : Below w.heap.size w W
  size : W.heap.size = w.heap.size + 2
  a : Boxed3 W w.heap.size na ao la ca po lp cp
  b : Boxed3 W (w.heap.size + 1) nb bo lb cb qo lq cq
theorem RTwo2.mk' (w : World) (na nb : Bool) (ao po bo qo : Option Addr) (la ca lp cp lb cb lq cq : Nat) : ∃ W, RTwo2 w W na nb ao po bo qo la ca lp cp lb cb lq cq :=
  ⟨_, rfl, ((Below.refl _ _).alloc (Nat.le_refl _) _).alloc (by simp) _, by simp, ⟨by simp [go_sem], by simp [go_sem], by simp [go_sem]⟩, ⟨by simp [go_sem], by simp [go_sem], by simp [go_sem]⟩⟩
theorem RatAt.pos {w : World} {neg : Bool} {ao bo : Option Addr} {l c lb cb : Nat} {r : Rat} (h : RatAt w neg ao l c bo lb cb r) : 0 < lb := by
  rw [h.den.hlen]; exact mag_len_pos.2 r.den_pos
theorem rcheck_good (na : Bool) (ao po : Option Addr) (la ca lp cp : Nat) (a : Rat) (w : World) (hx : RatAt w na ao la ca po lp cp a) (hl : la ≤ 1073741824) (hl' : lp ≤ 1073741824) (hT : TabAt 0 Lib.deBruijn64tab w) :
    Calls Tryz.prog 25 #[.agg #[.bool na, .slice ao la ca, .slice po lp cp]] w fun e w' => e = .returned (.int .i64 0) ∧ Below w.heap.size w w' := by
  obtain ⟨W, hW⟩ := ROne1.mk' w na ao po la ca lp cp
  have hsz := hW.size
  have HX : Hid (RatAt W na ao la ca po lp cp a ∧ TabAt 0 Lib.deBruijn64tab W) := ⟨hx.later hW.below, tab_later hT hW.below⟩
  have hp : ((lp : Int) == 0) = false := by have := hx.pos; simp; omega
  have HG : Hid (decide (Nat.gcd a.num.natAbs a.den = 1) = true) := decide_eq_true a.reduced
  clear hx hT
  go_enter Tryz.func25, Tryz.ntmps25
  go_wp2_with (first
    | (go_at_call 39; have _t := hb1; refine (check_at false po lp cp _ _ (HX.out.1.den.later hb1) (by omega) 0 (row_int HX.out.1.den).may).mono ?_; rintro e w2 ⟨rfl, hb2⟩; clear p0 p1 p2; obtain ⟨p0, p1, p2⟩ := hW.a.later (bnext hb1 hb2) (by omega))
    | (go_at_call 39; rw [← hW.eq]; refine (check_at na ao la ca _ _ HX.out.1.num.row (by omega) 0 HX.out.1.num.may).mono ?_; rintro e w1 ⟨rfl, hb1⟩; obtain ⟨p0, p1, p2⟩ := hW.a.later hb1 (by omega))
    | (go_at_call 40; refine (apart_any ao po la ca lp cp _ _ _ (HX.out.1.num.row.later (bnext hb1 hb2)) (HX.out.1.den.later (bnext hb1 hb2)) a.den_pos hl hl' (tab_later HX.out.2 (bnext hb1 hb2)) true HG.out).mono ?_; rintro e w3 ⟨rfl, hb3⟩))
  go_ret
  exact ⟨rfl, bnext hW.below (bnext (bnext hb1 hb2) hb3)⟩
def mayR (neg : Bool) (zs ds : List Int) : Bool := mayB neg zs && (mayB false ds && (decide (0 < ds.length) && decide (Nat.gcd (val 18446744073709551616 zs).natAbs (val 18446744073709551616 ds).natAbs = 1)))
theorem rat_of_may {w : World} {neg : Bool} {ao po : Option Addr} {la ca lp cp : Nat} {zs ds : List Int} (hx : RowAt w .u64 ao la ca zs) (wx : Wd 18446744073709551616 zs) (hy : RowAt w .u64 po lp cp ds) (wy : Wd 18446744073709551616 ds) (h : mayR neg zs ds = true) : ∃ r : Rat, RatAt w neg ao la ca po lp cp r ∧ zs = mag r.num.natAbs ∧ ds = mag r.den := by
  unfold mayR at h
  simp only [Bool.and_eq_true, decide_eq_true_eq] at h
  obtain ⟨h1, h2, h3, h4⟩ := h
  obtain ⟨v, hv, ev⟩ := int_of_may hx wx h1
  obtain ⟨d, hd, ed⟩ := int_of_may hy wy h2
  have hdn : d = (d.natAbs : Int) := by
    have hs := hd.sg
    have h5 : ¬ d < 0 := of_decide_eq_false (by simpa [sgB] using hs.symm)
    omega
  have e1 : (val 18446744073709551616 zs).natAbs = v.natAbs := by rw [ev, mag_val, Int.natAbs_natCast]
  have e2 : (val 18446744073709551616 ds).natAbs = d.natAbs := by rw [ed, mag_val, Int.natAbs_natCast]
  rw [e1, e2] at h4
  have h0 : d.natAbs ≠ 0 := fun e => by rw [ed, e] at h3; exact absurd h3 (by decide)
  exact ⟨⟨v, d.natAbs, h0, h4⟩, ⟨hv, hd.row⟩, ev, ed⟩
theorem nmay_eq (zs : List Int) : nmayB zs = mayB false zs := rfl
theorem qmay_any (na : Bool) (ao po : Option Addr) (la ca lp cp : Nat) (zs ds : List Int) (w : World) (hx : RowAt w .u64 ao la ca zs) (wx : Wd 18446744073709551616 zs) (hy : RowAt w .u64 po lp cp ds) (wy : Wd 18446744073709551616 ds) (hl : la ≤ 16777216) (hl' : lp ≤ 16777216) (c : Bool) (hc : mayR na zs ds = c) :
    Calls Tryz.prog 6 #[.agg #[.bool na, .slice ao la ca, .slice po lp cp]] w fun e w' => e = .returned (.bool c) ∧ Below w.heap.size w w' := by
  obtain ⟨W, hW⟩ := ROne1.mk' w na ao po la ca lp cp
  have hsz := hW.size
  have HX : Hid (RowAt W .u64 ao la ca zs ∧ RowAt W .u64 po lp cp ds) := ⟨hx.later hW.below, hy.later hW.below⟩
  have HC : Hid (mayR na zs ds = c) := hc
  have HL : Hid (lp = ds.length) := hy.hlen
  cases h1 : mayB na zs
  · obtain rfl : c = false := by rw [← HC.out]; simp [mayR, h1]
    have H1 : Hid (mayB na zs = false) := h1
    clear hx hy hc h1
    go_enter Tryz.func6, Tryz.ntmps6
    go_wp2_with (go_at_call 18; rw [← hW.eq]; refine (may_at na ao la ca zs _ HX.out.1 (by omega) false H1.out).mono ?_; rintro e w1 ⟨rfl, hb1⟩)
    go_ret
    exact ⟨rfl, bnext hW.below hb1⟩
  · have H1 : Hid (mayB na zs = true) := h1
    cases h2 : mayB false ds
    · obtain rfl : c = false := by rw [← HC.out]; simp [mayR, h2]
      have H2 : Hid (nmayB ds = false) := (nmay_eq ds).trans h2
      have hcon : ∀ X, RowAt X .u64 po lp cp ds → Calls Tryz.prog 19 #[.slice po lp cp] X fun e w' => e = .returned (.bool false) ∧ w' = X := fun X h => (nmay_any po lp cp ds X h (by omega)).mono fun e w' k => by rw [H2.out] at k; exact k
      clear hx hy hc h1 h2
      go_enter Tryz.func6, Tryz.ntmps6
      go_wp2_with (first
        | (go_at_call 18; rw [← hW.eq]; refine (may_at na ao la ca zs _ HX.out.1 (by omega) true H1.out).mono ?_; rintro e w1 ⟨rfl, hb1⟩; obtain ⟨p0, p1, p2⟩ := hW.a.later hb1 (by omega))
        | (go_at_call 19; refine (hcon _ (HX.out.2.later hb1)).mono ?_; rintro e w2 ⟨rfl, hw2⟩; replace hw2 := hw2.symm; subst hw2))
      go_ret
      exact ⟨rfl, bnext hW.below hb1⟩
    · have H2 : Hid (nmayB ds = true) := (nmay_eq ds).trans h2
      have hcon : ∀ X, RowAt X .u64 po lp cp ds → Calls Tryz.prog 19 #[.slice po lp cp] X fun e w' => e = .returned (.bool true) ∧ w' = X := fun X h => (nmay_any po lp cp ds X h (by omega)).mono fun e w' k => by rw [H2.out] at k; exact k
      by_cases h3 : lp = 0
      · obtain rfl : c = false := by rw [← HC.out]; have : ds.length = 0 := by have := HL.out; omega
                                     simp [mayR, this]
        subst h3
        clear hx hy hc h1 h2
        go_enter Tryz.func6, Tryz.ntmps6
        go_wp2_with (first
          | (go_at_call 18; rw [← hW.eq]; refine (may_at na ao la ca zs _ HX.out.1 (by omega) true H1.out).mono ?_; rintro e w1 ⟨rfl, hb1⟩; obtain ⟨p0, p1, p2⟩ := hW.a.later hb1 (by omega))
          | (go_at_call 19; refine (hcon _ (HX.out.2.later hb1)).mono ?_; rintro e w2 ⟨rfl, hw2⟩; replace hw2 := hw2.symm; subst hw2))
        go_ret
        exact ⟨rfl, bnext hW.below hb1⟩
      · have h3' : ((lp : Int) == 0) = false := by simp; omega
        obtain ⟨v, hv, ev⟩ := int_of_may HX.out.1 wx h1
        obtain ⟨d, hd, ed⟩ := int_of_may HX.out.2 wy h2
        have HG : Hid (decide (Nat.gcd v.natAbs d.natAbs = 1) = c) := by
          show _ = _
          rw [← HC.out]; unfold mayR
          rw [h1, h2, decide_eq_true (show 0 < ds.length by have := HL.out; omega), Bool.true_and, Bool.true_and, Bool.true_and, ev, ed, mag_val, mag_val, Int.natAbs_natCast, Int.natAbs_natCast]
        have HR : Hid (RowAt W .u64 ao la ca (mag v.natAbs) ∧ RowAt W .u64 po lp cp (mag d.natAbs)) := ⟨hv.row, hd.row⟩
        obtain ⟨gn, hgn⟩ : ∃ gn, Nat.gcd v.natAbs d.natAbs = gn := ⟨_, rfl⟩
        have HGn : Hid (decide (gn = 1) = c) := by show _ = _; rw [← hgn]; exact HG.out
        have hgcd : ∀ X, Below W.heap.size W X → Calls Tryz.prog 20 #[.slice ao la ca, .slice po lp cp] X fun e w' => ∃ go lg cg, e = .returned (.slice go lg cg) ∧ RowAt w' .u64 go lg cg (mag gn) ∧ Below X.heap.size X w' := fun X h => (ngcd_any ao po la ca lp cp v.natAbs d.natAbs X (HR.out.1.later h) (HR.out.2.later h) hl hl').mono fun e w' ⟨go, lg, cg, k1, k2, _, k3⟩ => ⟨go, lg, cg, k1, hgn ▸ k2, k3⟩
        clear hx hy hc h1 h2 hv hd ev ed hgn HG
        have key : ∀ (go : Option Addr) (lg cg : Nat) (X : World), RowAt X .u64 go lg cg (mag gn) → (((lg : Int) == 1) = false ∧ c = false) ∨ ∃ g off x, lg = 1 ∧ go = some ⟨g, off, none⟩ ∧ X.cell? ⟨g, off, none⟩ = some (.int .u64 x) ∧ (x == 1) = c := fun go lg cg X h => by
          by_cases e : lg = 1
          · subst e
            obtain ⟨g, off, rfl, _, hcl⟩ := h.get (by decide)
            refine Or.inr ⟨g, off, _, rfl, rfl, hcl 0 (by decide), ?_⟩
            rw [one_limb h.hlen.symm, ← HGn.out]
            by_cases e2 : gn = 1
            · subst e2; rfl
            · rw [decide_eq_false e2]; simp; omega
          · refine Or.inl ⟨by simp; omega, ?_⟩
            rw [← HGn.out]
            refine decide_eq_false fun e2 => e ?_
            rw [h.hlen, e2, one_word]; rfl
        go_enter Tryz.func6, Tryz.ntmps6
        go_upto_region 4 with (first
          | (go_at_call 18; rw [← hW.eq]; refine (may_at na ao la ca zs _ HX.out.1 (by omega) true H1.out).mono ?_; rintro e w1 ⟨rfl, hb1⟩; obtain ⟨p0, p1, p2⟩ := hW.a.later hb1 (by omega))
          | (go_at_call 19; refine (hcon _ (HX.out.2.later hb1)).mono ?_; rintro e w2 ⟨rfl, hw2⟩; replace hw2 := hw2.symm; subst hw2)
          | (go_at_call 20; refine (hgcd _ hb1).mono ?_; rintro e w3 ⟨go, lg, cg, rfl, hr3, hb3⟩))
        rcases key go lg cg _ hr3 with ⟨k1, k2⟩ | ⟨g, off, x, rfl, rfl, k1, k2⟩
        · subst k2
          clear hr3 p0 p1 p2
          go_wp2
          go_ret
          exact ⟨rfl, bnext hW.below (bnext hb1 hb3)⟩
        · have K2 : Hid ((x == 1) = c) := k2
          clear hr3 p0 p1 p2 k2
          go_wp2
          go_ret
          exact ⟨ret_bool K2.out, bnext hW.below (bnext hb1 hb3)⟩
end Go.Proofs.YtpbkonafojemiaaGreatDoor
namespace Go.Proofs.YtpbkonafojemiaaGreatDoor
open Go.RowKit
theorem run_mag (w : World) (n : Bool) (o : Option Addr) (l c : Nat) : Sem.run Tryz.prog (Instr.field 28 (.agg #[.bool n, .slice o l c]) 1) w = .ok (.slice o l c) w := by
 have h := run_underlying Tryz.underlying28 w
 unfold Instr.field
 simp [go_sem, h, asAgg]
end Go.Proofs.YtpbkonafojemiaaGreatDoor
namespace Go.Proofs.YtpbkonafojemiaaGreatDoor
open Go.RowKit
def byteAt (s : ByteArray) (k : Nat) : Nat := if h : k < s.size then s[k].toNat else 0
def decVal (s : ByteArray) : Nat → Nat
 | 0 => 0
 | k + 1 => decVal s k * 10 + (byteAt s k - 48)
end Go.Proofs.YtpbkonafojemiaaGreatDoor
namespace Go.Proofs.YtpbkonafojemiaaGreatDoor
open Go.RowKit
end Go.Proofs.YtpbkonafojemiaaGreatDoor
namespace Go.Proofs.YtpbkonafojemiaaGreatDoor
open Go.RowKit
structure TxSt (n : Nat) (E : List Int) (R : Nat) : Prop where
 wd : Wd 10 E
 eq : val 10 E + 10 ^ E.length * (R : Int) = (n : Int)
theorem TxSt.step {n R : Nat} {E : List Int} (h : TxSt n E R) : TxSt n (E ++ [((R % 10 : Nat) : Int)]) (R / 10) := by
 refine ⟨h.wd.append (Wd.one (by omega)), ?_⟩
 have h1 := h.eq
 rw [val_snoc, List.length_append, List.length_singleton, Int.pow_succ]
 have h2 : (R : Int) = ((R % 10 : Nat) : Int) + 10 * ((R / 10 : Nat) : Int) := by omega
 rw [h2] at h1
 rw [← h1]; grind
theorem TxSt.len {n R : Nat} {E : List Int} (h : TxSt n E R) (hR : 0 < R) {l : Nat} (hn : n < 18446744073709551616 ^ l) : E.length ≤ 64 * l := by
 have h1 := h.eq
 have h2 := val_nonneg (q := 10) (by decide) h.wd
 have h3 : (10 : Int) ^ E.length ≤ (n : Int) := by
  have : (10 : Int) ^ E.length * 1 ≤ 10 ^ E.length * (R : Int) := Int.mul_le_mul_of_nonneg_left (by omega) (Int.le_of_lt (Int.pow_pos (by decide)))
  omega
 have h4 : 10 ^ E.length ≤ n := by exact_mod_cast h3
 have h5 : 2 ^ E.length ≤ 10 ^ E.length := Nat.pow_le_pow_left (by decide) _
 have h6 : (18446744073709551616 : Nat) ^ l = 2 ^ (64 * l) := by rw [Nat.pow_mul]
 have h7 : 2 ^ E.length < 2 ^ (64 * l) := by omega
 exact Nat.le_of_lt ((Nat.pow_lt_pow_iff_right (by decide)).1 h7)
theorem TxSt.le {n R : Nat} {E : List Int} (h : TxSt n E R) : R ≤ n := by
 have h1 := h.eq
 have h2 := val_nonneg (q := 10) (by decide) h.wd
 have h3 : 1 * (R : Int) ≤ 10 ^ E.length * (R : Int) := Int.mul_le_mul_of_nonneg_right (by have := Int.pow_pos (n := 10) (m := E.length) (by decide); omega) (by omega)
 omega
end Go.Proofs.YtpbkonafojemiaaGreatDoor
namespace Go.Proofs.YtpbkonafojemiaaGreatDoor
open Go.RowKit
theorem owns_later {w w' : World} {B n : Nat} {t : TypeId} {v : Value} {xs : List Value} (h : w.ownsRow B t 1 v n xs) (hb : Below w.heap.size w w') : w'.ownsRow B t 1 v n xs := by
 refine ⟨h.1, ?_⟩
 rcases h.2 with hv | ⟨g, cap, cur, hv, hg, hh, hrest⟩
 ·
  exact Or.inl hv
 ·
  exact Or.inr ⟨g, cap, cur, hv, hg, by rw [hb.block g (heap_lt hh)]; exact hh, hrest⟩
end Go.Proofs.YtpbkonafojemiaaGreatDoor
namespace Go.Proofs.YtpbkonafojemiaaGreatDoor
open Go.RowKit Go.Sort Go.Lib
def Pow10 (w : World) : Prop := Lib.TabIs Tryz.prog w "internal/strconv.uint64pow10" .u64 Lib.pow10Tab
theorem Pow10.later {w w' : World} (h : Pow10 w) (hb : Below w.heap.size w w') : Pow10 w' := Lib.tabBelow_of_tabIs h w' hb
end Go.Proofs.YtpbkonafojemiaaGreatDoor
namespace Go.Proofs.YtpbkonafojemiaaGreatDoor
open Go.RowKit
def KeepT (w w' : World) : Prop := w.heap.size ≤ w'.heap.size ∧ ∀ (k : Nat) (cur : Array Value) (t : TypeId) (fr : Nat × Nat), w.heap[k]? = some (Obj.cells cur t fr) → t ≠ 5 → w'.heap[k]? = some (Obj.cells cur t fr)
theorem KeepT.refl (w : World) : KeepT w w := ⟨Nat.le_refl _, fun _ _ _ _ h _ => h⟩
theorem KeepT.trans {w w1 w2 : World} (h : KeepT w w1) (k : KeepT w1 w2) : KeepT w w2 := ⟨Nat.le_trans h.1 k.1, fun i cur t fr hi ht => k.2 i cur t fr (h.2 i cur t fr hi ht) ht⟩
theorem KeepT.below {w w' : World} (h : Below w.heap.size w w') : KeepT w w' := ⟨h.size, fun k cur t fr hk _ => by rw [h.block k (heap_lt hk)]; exact hk⟩
theorem KeepT.grown {w w' : World} {B n : Nat} {v : Value} {xs : List Value} (ho : w.ownsRow B 5 1 v n xs) (hg : w.grownBy w' v.ownBlock) : KeepT w w' := by
 refine ⟨hg.size, fun k cur t fr hk ht => ?_⟩
 rw [hg.block k (heap_lt hk) ?_]
 ·
  exact hk
 ·
  intro e
  rcases ho.2 with ⟨rfl, _⟩ | ⟨g', cap', cur', rfl, hg', hh, _⟩
  ·
   cases e
  ·
   simp only [Value.ownBlock, Option.some.injEq] at e
   subst e
   rw [hk] at hh
   simp only [Option.some.injEq, Obj.cells.injEq] at hh
   exact ht hh.2.1
def Byt (xs : List Int) : Prop := ∀ x ∈ xs, 0 ≤ x ∧ x < 256
end Go.Proofs.YtpbkonafojemiaaGreatDoor
namespace Go.Proofs.YtpbkonafojemiaaGreatDoor
open Go.RowKit
end Go.Proofs.YtpbkonafojemiaaGreatDoor
namespace Go.Proofs.YtpbkonafojemiaaGreatDoor
open Go.RowKit
def ten (i : Nat) : Nat := 10 ^ (19 * 2 ^ i)
structure TensAt (B : Nat) (w : World) (v : Value) (m L : Nat) : Prop where
 row : ∃ xs : List Value, w.ownsRow B 26 1 v m xs ∧ ∀ i, i < m → ∃ o l c, xs[i]? = some (.slice o l c) ∧ Own B w .u64 56 o l c (mag (ten i)) ∧ l ≤ L
theorem TensAt.later {B m L : Nat} {w w' : World} {v : Value} (h : TensAt B w v m L) (hb : Below w.heap.size w w') : TensAt B w' v m L := by
 obtain ⟨xs, ho, hx⟩ := h.row
 exact ⟨xs, owns_later ho hb, fun i hi => by obtain ⟨o, l, c, h1, h2, h3⟩ := hx i hi; exact ⟨o, l, c, h1, h2.later hb, h3⟩⟩
end Go.Proofs.YtpbkonafojemiaaGreatDoor
namespace Go.Proofs.YtpbkonafojemiaaGreatDoor
open Go.RowKit
theorem own_keep {B : Nat} {w w' : World} {k : IntKind} {t : TypeId} {ao : Option Addr} {len cap : Nat} {zs : List Int} (h : Own B w k t ao len cap zs) (hk : KeepT w w') (ht : t ≠ 5) : Own B w' k t ao len cap zs := by
 rcases h with h | ⟨g, off, cur, h1, h2, h3, h4⟩
 ·
  exact Or.inl h
 ·
  exact Or.inr ⟨g, off, cur, h1, h2, hk.2 _ _ _ _ h3 ht, h4⟩
theorem TensAt.keep {B m L : Nat} {w w' : World} {v : Value} (h : TensAt B w v m L) (hk : KeepT w w') : TensAt B w' v m L := by
 obtain ⟨xs, ho, hx⟩ := h.row
 refine ⟨xs, ⟨ho.1, ?_⟩, fun i hi => ?_⟩
 ·
  rcases ho.2 with hv | ⟨g, cap, cur, hv, hg, hh, hrest⟩
  ·
   exact Or.inl hv
  ·
   exact Or.inr ⟨g, cap, cur, hv, hg, hk.2 _ _ _ _ hh (by decide), hrest⟩
 ·
  obtain ⟨o, l, c, h1, h2, h3⟩ := hx i hi
  exact ⟨o, l, c, h1, own_keep h2 hk (by decide), h3⟩
theorem TensAt.take {B m k L cap : Nat} {w : World} {o : Option Addr} (h : TensAt B w (.slice o m cap) m L) (hk : k ≤ m) : TensAt B w (.slice o k cap) k L := by
 obtain ⟨xs, ho, hx⟩ := h.row
 refine ⟨xs.take k, ⟨by rw [List.length_take, ho.1]; omega, ?_⟩, fun i hi => ?_⟩
 ·
  rcases ho.2 with ⟨hv, h0⟩ | ⟨g, cap', cur, hv, hg, hh, hc1, hc2, hs, ht⟩
  ·
   cases hv; exact Or.inl ⟨by rw [show k = 0 by omega], by omega⟩
  ·
   cases hv
   refine Or.inr ⟨g, cap, cur, rfl, hg, hh, by omega, hc2, hs, ?_⟩
   rw [← ht, List.take_take]; congr 1; omega
 ·
  obtain ⟨o', l, c, h1, h2, h3⟩ := hx i (by omega)
  exact ⟨o', l, c, by rw [List.getElem?_take, if_pos hi]; exact h1, h2, h3⟩
theorem TensAt.at {B m L cap k : Nat} {w : World} {o : Option Addr} (h : TensAt B w (.slice o m cap) m L) (hk : k < m) : ∃ g po lp cp, o = some ⟨g, 0, none⟩ ∧ w.cell? ⟨g, k, none⟩ = some (.slice po lp cp) ∧ RowAt w .u64 po lp cp (mag (ten k)) ∧ lp ≤ L ∧ m ≤ cap ∧ cap ≤ 9223372036854775807 := by
 obtain ⟨xs, ho, hx⟩ := h.row
 obtain ⟨po, lp, cp, h1, h2, h3⟩ := hx k hk
 rcases ho.2 with ⟨hv, h0⟩ | ⟨g, cap', cur, hv, hg, hh, hc1, hc2, hs, ht⟩
 ·
  omega
 ·
  cases hv
  refine ⟨g, po, lp, cp, rfl, ?_, h2.row, h3, hc1, hc2⟩
  rw [← ht, Nat.mul_one, List.getElem?_take, if_pos hk] at h1
  simp only [World.cell?, hh]
  simpa using h1
end Go.Proofs.YtpbkonafojemiaaGreatDoor
namespace Go.Proofs.YtpbkonafojemiaaGreatDoor
open Go.RowKit
structure ReadSt (d : ByteArray) (sz k j M W : Nat) : Prop where
 dig : ∀ i, i < k → 48 ≤ byteAt d i ∧ byteAt d i ≤ 57
 top : 0 < k → byteAt d 0 = 48 → sz ≤ 1
 jl : j ≤ 18
 wl : W < 10 ^ j
 eq : M * 10 ^ j + W = decVal d k
 last : k = d.size → j = 0
theorem ReadSt.len {d : ByteArray} {sz k j M W : Nat} (h : ReadSt d sz k j M W) (hk : k ≤ 1024) : (mag M).length ≤ 1024 := by
 have h1 : decVal d k < 10 ^ k := by
  have : ∀ i, i ≤ k → decVal d i < 10 ^ i := by
   intro i
   induction i with
   | zero => intro _; simp [decVal]
   | succ i ih =>
    intro hi
    have h2 := ih (by omega)
    have h3 := h.dig i (by omega)
    rw [decVal, Nat.pow_succ]; omega
  exact this k (Nat.le_refl _)
 have h2 : 10 ^ k ≤ 2 ^ (64 * k) := by rw [Nat.pow_mul]; exact Nat.pow_le_pow_left (by decide) _
 have h3 : M ≤ decVal d k := by
  rw [← h.eq]
  exact Nat.le_trans (Nat.le_mul_of_pos_right _ (Nat.pow_pos (by decide))) (Nat.le_add_right _ _)
 exact Nat.le_trans (two_len (l := 64 * k) (Nat.lt_of_le_of_lt h3 (Nat.lt_of_lt_of_le h1 h2)) (Nat.le_refl _)) hk
end Go.Proofs.YtpbkonafojemiaaGreatDoor
namespace Go.Proofs.YtpbkonafojemiaaGreatDoor
open Go.RowKit
end Go.Proofs.YtpbkonafojemiaaGreatDoor
namespace Go.Proofs.YtpbkonafojemiaaGreatDoor
open Go.RowKit
end Go.Proofs.YtpbkonafojemiaaGreatDoor
namespace Go.Proofs.YtpbkonafojemiaaGreatDoor
open Go.RowKit
end Go.Proofs.YtpbkonafojemiaaGreatDoor
namespace Go.Proofs.YtpbkonafojemiaaGreatDoor
open Go.RowKit
end Go.Proofs.YtpbkonafojemiaaGreatDoor
namespace Go.Proofs.YtpbkonafojemiaaGreatDoor
open Go.RowKit
theorem Byt.left {xs ys : List Int} (h : Byt (xs ++ ys)) : Byt xs := fun x hx => h x (List.mem_append_left _ hx)
end Go.Proofs.YtpbkonafojemiaaGreatDoor
namespace Go.Proofs.YtpbkonafojemiaaGreatDoor
open Go.RowKit
structure R1 (w W : World) : Prop where
 eq : W = w.alloc (.cells #[.bool false, .slice none 0 0, .slice none 0 0] 30)
 below : Below w.heap.size w W
 size : W.heap.size = w.heap.size + 1
 r : Fresh3 W w.heap.size
theorem R1.mk' (w : World) : ∃ W, R1 w W := ⟨_, rfl, (Below.refl _ _).alloc (Nat.le_refl _) _, by simp, ⟨fun j => by simp [go_sem], by simp [go_sem], by simp [go_sem], by simp [go_sem]⟩⟩
end Go.Proofs.YtpbkonafojemiaaGreatDoor
namespace Go.Proofs.YtpbkonafojemiaaGreatDoor
open Go.RowKit
structure IR2 (w W : World) (na : Bool) (ao : Option Addr) (la ca : Nat) : Prop where
 eq : W = (w.alloc (.cells #[.bool na, .slice ao la ca] 28)).alloc (.cells #[.bool false, .slice none 0 0, .slice none 0 0] 30)
 below : Below w.heap.size w W
 size : W.heap.size = w.heap.size + 2
 a : Boxed W w.heap.size na ao la ca
 r : Fresh3 W (w.heap.size + 1)
theorem IR2.mk' (w : World) (na : Bool) (ao : Option Addr) (la ca : Nat) : ∃ W, IR2 w W na ao la ca :=
 ⟨_, rfl, ((Below.refl _ _).alloc (Nat.le_refl _) _).alloc (by simp) _, by simp, ⟨by simp [go_sem], by simp [go_sem]⟩, ⟨fun j => by simp [go_sem], by simp [go_sem], by simp [go_sem], by simp [go_sem]⟩⟩
end Go.Proofs.YtpbkonafojemiaaGreatDoor
namespace Go.Proofs.YtpbkonafojemiaaGreatDoor
open Go.RowKit
theorem rclone_any (neg : Bool) (ao : Option Addr) (len cap : Nat) (v : Int) (w : World) (hx : IntAt w neg ao len cap v) (hl : len ≤ 1073741824) :
  Calls Tryz.prog 86 #[.agg #[.bool neg, .slice ao len cap]] w fun e w' => NewInt w w' e v := by
 obtain ⟨W, hT⟩ := One2.mk' w neg ao len cap
 have hsz := hT.size
 have HX : Hid (IntAt W neg ao len cap v) := hx.later hT.below
 have KW : Hid (∀ w' : World, Below W.heap.size W w' → w'.cell? ⟨w.heap.size, 0, none⟩ = some (.bool neg) ∧ w'.cell? ⟨w.heap.size, 1, none⟩ = some (.slice ao len cap)) := fun w' h => ⟨(h.cell (p := ⟨w.heap.size, 0, none⟩) (by show w.heap.size < _; omega)).trans hT.a.1, (h.cell (p := ⟨w.heap.size, 1, none⟩) (by show w.heap.size < _; omega)).trans hT.a.2⟩
 have KS : Hid (∀ X : World, Below W.heap.size W X → ∀ x y, (fun w' : World => w'.cell? ⟨w.heap.size, 0, none⟩ = some (.bool neg) ∧ w'.cell? ⟨w.heap.size, 1, none⟩ = some (.slice ao len cap)) ((X.setCell ⟨w.heap.size + 1, 0, none⟩ x).setCell ⟨w.heap.size + 1, 1, none⟩ y)) := fun X h x y => by
  obtain ⟨h1, h2⟩ := KW.out X h
  (try dsimp only)
  rw [cell_off (by omega), cell_off (by omega), cell_off (by omega), cell_off (by omega)]
  exact ⟨h1, h2⟩
 have HF : Hid (Fresh W (w.heap.size + 1) ∧ Below w.heap.size w W) := ⟨hT.r, hT.below⟩
 clear hx
 go_enter Tryz.func86, Tryz.ntmps86
 go_upto_region 1 with fail
 rw [← hT.eq]
 clear hT
 have hzU : W.heap.size ≤ W.drew.heap.size := Nat.le_refl _
 have S0 : Step8 0 := ⟨trivial⟩
 go_region_held3 (fun w' => (w'.cell? ⟨w.heap.size, 0, none⟩ = some (.bool neg) ∧ w'.cell? ⟨w.heap.size, 1, none⟩ = some (.slice ao len cap)))
  (with_reducible (first | exact KS.out _ hbF1 _ _ | exact KW.out _ (Below.refl _ _).drew | exact KW.out _ (by assumption) | (refine KW.out _ ?_; (repeat (first | refine below_alloc ?_ (Nat.le_refl _) | refine Below.drew ?_ | refine below_set ?_ (by omega))); (first | exact hbF1 | exact Below.refl _ _))))
  (first
   | (have _t := S0; go_at_call 88; refine with_held (S := fun w9 => Below W.heap.size W w9) (by show Below _ _ _; with_reducible ((repeat (first | refine below_alloc ?_ (Nat.le_refl _) | refine Below.drew ?_ | refine below_set ?_ (by omega))); (first | exact hbF1 | exact Below.refl _ _))) (fun hS => ?_); refine (cloneNat_any ao len cap v.natAbs _ (HX.out.row.later hS) hl).mono ?_; rintro e f1 ⟨o1, l1, c1, rfl, ho, hb⟩; have H1 : Hid (Own W.heap.size f1 .u64 56 o1 l1 c1 (mag v.natAbs) ∧ Below W.heap.size W f1) := ⟨ho.mono hS.size, bnext hS hb⟩; clear ho; obtain ⟨k5, k2, k3⟩ := HF.out.1.later (bnext hS hb) (by omega); have hbF1 : Below W.heap.size W f1 := bnext hS hb; have hzF1 := hbF1.size; clear hS hb S0; skip))
 all_goals go_wp2
 exact bodyPost_ret (v := .agg #[.bool neg, .slice o1 l1 c1]) (by simp [results, Tryz.results86, go_sem, k2, k3]) rfl
  ⟨_, _, _, _, rfl, HX.out.sg, (H1.out.1.store (by omega) _ _).mono (by omega), below_store (bnext HF.out.2 H1.out.2) (by omega) _ _⟩
structure RI3 (w W : World) (na : Bool) (ao po : Option Addr) (la ca lp cp : Nat) : Prop where
 eq : W = ((w.alloc (.cells #[.bool na, .slice ao la ca, .slice po lp cp] 30)).alloc (.cells #[.bool false, .slice none 0 0] 28)).alloc (.cells #[.bool false, .slice none 0 0] 28)
 below : Below w.heap.size w W
 size : W.heap.size = w.heap.size + 3
 a : Boxed3 W w.heap.size na ao la ca po lp cp
 r : Fresh W (w.heap.size + 1)
 q : Fresh W (w.heap.size + 1 + 1)
theorem RI3.mk' (w : World) (na : Bool) (ao po : Option Addr) (la ca lp cp : Nat) : ∃ W, RI3 w W na ao po la ca lp cp :=
 ⟨_, rfl, (((Below.refl _ _).alloc (Nat.le_refl _) _).alloc (by simp) _).alloc (by simp; omega) _, by simp, ⟨by simp [go_sem], by simp [go_sem], by simp [go_sem]⟩, ⟨fun j => by simp [go_sem], by simp [go_sem], by simp [go_sem]⟩, ⟨fun j => by simp [go_sem], by simp [go_sem], by simp [go_sem]⟩⟩
structure RI2 (w W : World) (na : Bool) (ao po : Option Addr) (la ca lp cp : Nat) : Prop where
 eq : W = (w.alloc (.cells #[.bool na, .slice ao la ca, .slice po lp cp] 30)).alloc (.cells #[.bool false, .slice none 0 0] 28)
 below : Below w.heap.size w W
 size : W.heap.size = w.heap.size + 2
 a : Boxed3 W w.heap.size na ao la ca po lp cp
 r : Fresh W (w.heap.size + 1)
theorem RI2.mk' (w : World) (na : Bool) (ao po : Option Addr) (la ca lp cp : Nat) : ∃ W, RI2 w W na ao po la ca lp cp :=
 ⟨_, rfl, ((Below.refl _ _).alloc (Nat.le_refl _) _).alloc (by simp) _, by simp, ⟨by simp [go_sem], by simp [go_sem], by simp [go_sem]⟩, ⟨fun j => by simp [go_sem], by simp [go_sem], by simp [go_sem]⟩⟩
end Go.Proofs.YtpbkonafojemiaaGreatDoor
namespace Go.Proofs.YtpbkonafojemiaaGreatDoor
open Go.RowKit
theorem lowest_rat (na : Bool) (ao do' : Option Addr) (la ca ld cd : Nat) (v : Int) (d : Nat) (w : World) (hx : IntAt w na ao la ca v) (hy : RowAt w .u64 do' ld cd (mag d)) (h0 : d ≠ 0) (hl : la ≤ 1000000) (hl' : ld ≤ 1000000) (hT0 : TabAt 0 Lib.deBruijn64tab w) (r : Rat) (hr : r = Rat.normalize v d h0) :
  Calls Tryz.prog 72 #[.agg #[.bool na, .slice ao la ca], .slice do' ld cd] w fun e w' => NewRat w w' e r := by
 obtain ⟨W, hT⟩ := IR2.mk' w na ao la ca
 have hsz : w.heap.size + 2 ≤ W.heap.size := by rw [hT.size]; exact Nat.le_refl _
 have HX : Hid (IntAt W na ao la ca v ∧ RowAt W .u64 do' ld cd (mag d) ∧ TabAt 0 Lib.deBruijn64tab W) := ⟨hx.later hT.below, hy.later hT.below, tab_later hT0 hT.below⟩
 obtain ⟨g, hg⟩ : ∃ g, Nat.gcd v.natAbs d = g := ⟨_, rfl⟩
 have hg0 : 0 < g := by rw [← hg]; exact Nat.gcd_pos_of_pos_right _ (by omega)
 have HG : Hid (Nat.gcd v.natAbs d = g ∧ (g : Int) ∣ v ∧ (g : Int) ∣ (d : Int)) := ⟨hg, hg ▸ gcd_dvd_abs v d, hg ▸ Int.ofNat_dvd.2 (Nat.gcd_dvd_right _ _)⟩
 have HE : Hid (r.num = v / (g : Int) ∧ r.den = d / g ∧ (mag (v / (g : Int)).natAbs).length ≤ 1000000 ∧ (mag (d / g)).length ≤ 1000000 ∧ (mag g).length ≤ 1000000) := by
  have h1 := rmake_parts (n := v) h0
  rw [hg, ← hr] at h1
  have h2 := idiv_len (hg ▸ gcd_dvd_abs v d)
  have h3 := hx.row.hlen
  have h4 := hy.hlen
  have h5 := div_len d g
  have h6 := dvd_len (hg ▸ Nat.gcd_dvd_right v.natAbs d) (show 0 < d by omega)
  refine ⟨h1.1, h1.2, ?_, ?_, ?_⟩ <;> omega
 have hp0 : 0 < d := by omega
 clear hx hy hr hg hT0
 have hmag := run_mag
 go_enter Tryz.func72, Tryz.ntmps72
 obtain ⟨p0, p1⟩ := hT.a
 go_wp2_with (first
  | (go_at_call 67; rw [← hT.eq]; refine (common_any ao do' la ca ld cd v.natAbs d _ HX.out.1.row HX.out.2.1 hp0 (by omega) (by omega) HX.out.2.2).mono ?_; rw [HG.out.1]; rintro e w1 ⟨go, lg, cg, rfl, hr, hb1⟩; have hlg : lg ≤ 1000000 := (by rw [hr.hlen]; exact HE.out.2.2.2.2); have H1 : Hid (RowAt w1 .u64 go lg cg (mag g)) := hr; clear hr p0 p1; obtain ⟨p0, p1⟩ := hT.a.later hb1 (by omega))
  | (go_at_call 87; have _t := H3; refine (over_any false do' go ld cd lg cg (d : Int) g _ (row_int (HX.out.2.1.later H3.out.2.2)) (H1.out.later H3.out.2.1) (by omega) (by omega) hg0 HG.out.2.2).mono ?_; rintro e w4 ⟨n4, o4, l4, c4, rfl, hi, _, hb⟩; have H4 : Hid (RowAt w4 .u64 o4 l4 c4 (mag (d / g)) ∧ (n3 = sgB r.num ∧ Own W.heap.size w4 .u64 56 o3 l3 c3 (mag r.num.natAbs)) ∧ Below W.heap.size W w4) := ⟨(by have h := hi.row; rw [← Int.natCast_ediv, Int.natAbs_natCast] at h; exact h), ⟨H3.out.1.1, H3.out.1.2.later hb⟩, bnext H3.out.2.2 hb⟩; clear hi hb)
  | (go_at_call 87; refine (over_any na ao go la ca lg cg v g _ (HX.out.1.later hb1) H1.out (by omega) (by omega) hg0 HG.out.2.1).mono ?_; rintro e w2 ⟨n2, o2, l2, c2, rfl, hi, _, hb⟩; have hl2 : l2 ≤ 1000000 := (by rw [hi.row.hlen]; exact HE.out.2.2.1); have H2 : Hid (IntAt w2 n2 o2 l2 c2 (v / (g : Int)) ∧ Below w1.heap.size w1 w2) := ⟨hi, hb⟩; clear hi hb p0 p1)
  | (go_at_call 86; refine (rclone_any n2 o2 l2 c2 (v / (g : Int)) _ H2.out.1 (by omega)).mono ?_; rw [← HE.out.1]; rintro e w3 ⟨n3, o3, l3, c3, rfl, hs, ho, hb⟩; have H3 : Hid ((n3 = sgB r.num ∧ Own W.heap.size w3 .u64 56 o3 l3 c3 (mag r.num.natAbs)) ∧ Below w1.heap.size w1 w3 ∧ Below W.heap.size W w3) := ⟨⟨hs, ho.mono (bnext hb1 H2.out.2).size⟩, bnext H2.out.2 hb, bnext hb1 (bnext H2.out.2 hb)⟩; clear hs ho hb)
  | (go_at_call 88; refine (cloneNat_any o4 l4 c4 (d / g) _ H4.out.1 (by rw [H4.out.1.hlen]; have := HE.out.2.2.2.1; omega)).mono ?_; rintro e w5 ⟨o5, l5, c5, rfl, ho, hb⟩; have H5 : Hid ((n3 = sgB r.num ∧ Own W.heap.size w5 .u64 56 o3 l3 c3 (mag r.num.natAbs)) ∧ Own W.heap.size w5 .u64 56 o5 l5 c5 (mag r.den) ∧ Parted o3 o5 ∧ Below W.heap.size W w5) := ⟨⟨H4.out.2.1.1, H4.out.2.1.2.later hb⟩, (by rw [HE.out.2.1]; exact ho.mono H4.out.2.2.size), Parted.made H4.out.2.1.2 ho (Nat.le_refl _), bnext H4.out.2.2 hb⟩; clear ho hb; obtain ⟨k5, k2, k3, k4⟩ := hT.r.later H5.out.2.2.2 (by omega)))
 exact bodyPost_ret (v := .agg #[.bool n3, .slice o3 l3 c3, .slice o5 l5 c5]) (by simp [results, Tryz.results72, go_sem, k2, k3, k4]) rfl
  ⟨_, _, _, _, _, _, _, rfl, H5.out.1.1, (H5.out.1.2.store3 (by omega) _ _ _).mono (by omega), (H5.out.2.1.store3 (by omega) _ _ _).mono (by omega), H5.out.2.2.1, below_store3 (bnext hT.below H5.out.2.2.2) (by omega) _ _ _⟩
theorem make_good (na : Bool) (ao do' : Option Addr) (la ca ld cd : Nat) (x f : List Int) (v : Int) (d : Nat) (w : World) (hx : RowAt w .u64 ao la ca x) (hy : RowAt w .u64 do' ld cd f) (hl : la ≤ 1000000) (hl' : ld ≤ 1000000) (hm : mayB na x = true) (hm2 : mayB false f = true) (hxv : x = mag v.natAbs ∧ na = sgB v) (hfd : f = mag d) (h0 : d ≠ 0) (hT0 : TabAt 0 Lib.deBruijn64tab w) (r : Rat) (hr : r = Rat.normalize v d h0) :
  Calls Tryz.prog 44 #[.agg #[.bool na, .slice ao la ca], .slice do' ld cd] w fun e w' => NewRatErr w w' e r := by
 have HT : Hid (TabAt 0 Lib.deBruijn64tab w) := hT0
 clear hT0
 obtain ⟨W, hT⟩ := IR2.mk' w na ao la ca
 have hsz : w.heap.size + 2 ≤ W.heap.size := by rw [hT.size]; exact Nat.le_refl _
 have HX : Hid (RowAt W .u64 ao la ca x ∧ RowAt W .u64 do' ld cd f) := ⟨hx.later hT.below, hy.later hT.below⟩
 obtain ⟨p0, p1⟩ := hT.a
 clear hx hy
 have HTW : Hid (TabAt 0 Lib.deBruijn64tab W) := tab_later HT.out hT.below
 have HM : Hid ((if mayB na x then 0 else 10 : Int) = 0) := by show _ = _; rw [hm]; rfl
 have HM2 : Hid ((if mayB false f then 0 else 10 : Int) = 0) := by show _ = _; rw [hm2]; rfl
 have HV : Hid (IntAt W na ao la ca v ∧ RowAt W .u64 do' ld cd (mag d) ∧ r = Rat.normalize v d h0) := ⟨⟨hxv.2, hxv.1 ▸ HX.out.1⟩, hfd ▸ HX.out.2, hr⟩
 have hz' : ((ld : Int) == 0) = false := by
  have h1 : 0 < ld := by rw [HV.out.2.1.hlen]; exact mag_len_pos.2 (by omega)
  simp; omega
 clear hm hm2 hxv hfd hr
 go_enter Tryz.func44, Tryz.ntmps44
 go_wp2_with (first
  | (go_at_call 72; refine (lowest_rat na ao do' la ca ld cd v d _ (HV.out.1.later hb2) (HV.out.2.1.later hb2) h0 (by omega) (by omega) (tab_later HTW.out hb2) r HV.out.2.2).mono ?_; rintro e w3 ⟨n4, o4, l4, c4, o5, l5, c5, rfl, hs, ho, hp, hpt, hb3⟩; have HA : Hid (n4 = sgB r.num ∧ Own W.heap.size w3 .u64 56 o4 l4 c4 (mag r.num.natAbs) ∧ Own W.heap.size w3 .u64 56 o5 l5 c5 (mag r.den) ∧ Parted o4 o5 ∧ Below W.heap.size W w3) := ⟨hs, ho.mono hb2.size, hp.mono hb2.size, hpt, bnext hb2 hb3⟩; clear hs ho hp hpt hb3 p0 p1 g5 g2 g3 g4; obtain ⟨g5, g2, g3, g4⟩ := hT.r.later HA.out.2.2.2.2 (by omega))
  | (go_at_call 39; have _t := hb1; refine (check_at false do' ld cd f _ (HX.out.2.later hb1) (by omega) 0 HM2.out).mono ?_; rintro e w2 ⟨rfl, hb2'⟩; have hb2 := bnext hb1 hb2'; clear hb2' p0 p1 g5 g2 g3 g4; obtain ⟨p0, p1⟩ := hT.a.later hb2 (by omega); obtain ⟨g5, g2, g3, g4⟩ := hT.r.later hb2 (by omega))
  | (go_at_call 39; rw [← hT.eq]; refine (check_at na ao la ca x _ HX.out.1 (by omega) 0 HM.out).mono ?_; rintro e w1 ⟨rfl, hb1⟩; obtain ⟨p0, p1⟩ := hT.a.later hb1 (by omega); obtain ⟨g5, g2, g3, g4⟩ := hT.r.later hb1 (by omega)))
 exact bodyPost_ret (v := .tuple #[.agg #[.bool n4, .slice o4 l4 c4, .slice o5 l5 c5], .int .i64 0]) (by simp [results, Tryz.results44, go_sem, g2, g3, g4]) rfl
  ⟨_, _, _, _, _, _, _, rfl, HA.out.1, (HA.out.2.1.store3 (by omega) _ _ _).mono (by omega), (HA.out.2.2.1.store3 (by omega) _ _ _).mono (by omega), HA.out.2.2.2.1, below_store3 (bnext hT.below HA.out.2.2.2.2) (by omega) _ _ _⟩
end Go.Proofs.YtpbkonafojemiaaGreatDoor
