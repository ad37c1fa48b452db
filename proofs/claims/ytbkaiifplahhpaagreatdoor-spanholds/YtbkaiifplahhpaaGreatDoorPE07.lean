/-
  A pack of walks and facts: EO, WC, WO, LA0.
-/
import Derived.Test.YtbkaiifplahhpaaGreatDoorPE03
import Derived.Test.YtbkaiifplahhpaaGreatDoorPE06
set_option maxRecDepth 100000
set_option maxHeartbeats 40000000
set_option linter.unusedVariables false
set_option linter.unusedSimpArgs false
namespace Go.Proofs.YtbkaiifplahhpaaGreatDoor
open Go.RowKit Go.Shelf
theorem sgn_mul {na nb : Bool} {a b : Int} (ha : na = sgB a) (hb : nb = sgB b) : a * b = sgn (na != nb) (a.natAbs * b.natAbs) := by
 have h1 := sgn_of ha
 have h2 := sgn_of hb
 unfold sgn at h1 h2 ⊢
 rw [Int.natCast_mul]
 cases na <;> cases nb <;> simp at h1 h2 ⊢
 ·
  rw [h1, h2]
 ·
  rw [h1, ← Int.mul_neg, h2]
 ·
  rw [h2, ← Int.neg_mul, h1]
 ·
  rw [← Int.neg_mul_neg a b, show -a = (a.natAbs : Int) by omega, show -b = (b.natAbs : Int) by omega]
end Go.Proofs.YtbkaiifplahhpaaGreatDoor
namespace Go.Proofs.YtbkaiifplahhpaaGreatDoor
open Go.RowKit Go.Shelf
theorem sgn_pow {neg : Bool} {v : Int} (h : neg = sgB v) (n : Nat) : v ^ n = sgn (neg && decide (n % 2 = 1)) (v.natAbs ^ n) := by
 have h1 := sgn_of h
 unfold sgn at h1 ⊢
 rw [Int.natCast_pow]
 cases neg
 ·
  simp at h1 ⊢; rw [h1]
 ·
  simp at h1
  have h2 : v = -(v.natAbs : Int) := h1.symm
  obtain ⟨k, hk⟩ : ∃ k, v.natAbs = k := ⟨_, rfl⟩
  rw [hk] at h2 ⊢
  subst h2
  rcases Nat.mod_two_eq_zero_or_one n with e | e
  ·
   obtain ⟨j, rfl⟩ : ∃ j, n = 2 * j := ⟨n / 2, by omega⟩
   simp [e]
   rw [Int.pow_mul, Int.pow_mul]; congr 1; grind
  ·
   obtain ⟨j, rfl⟩ : ∃ j, n = 2 * j + 1 := ⟨n / 2, by omega⟩
   simp [e]
   rw [Int.pow_succ, Int.pow_succ, Int.pow_mul, Int.pow_mul, show (-(k : Int)) ^ 2 = (k : Int) ^ 2 by grind]; grind
theorem NewInt.err {w w' : World} {x : Value} {v : Int} (h : NewInt w w' (.returned x) v) : NewIntErr w w' (.returned (.tuple #[x, .int .i64 0])) v := by
 obtain ⟨n9, ao9, l9, c9, he9, hrest9⟩ := h
 simp only [Ending.returned.injEq] at he9
 subst he9
 exact ⟨n9, ao9, l9, c9, rfl, hrest9⟩
end Go.Proofs.YtbkaiifplahhpaaGreatDoor
namespace Go.Proofs.YtbkaiifplahhpaaGreatDoor
open Go.RowKit Go.Shelf
theorem within_any (i : Int) (n : Nat) (w : World) (h0 : -9223372036854775808 ≤ i) (h1 : i ≤ 9223372036854775807) (hn : 0 < n) (hn' : n < 4294967296) :
  Calls Tryz.prog 26 #[.int .i64 i, .int .i64 (n : Int)] w fun e w' => ∃ k : Nat, k < n ∧ e = .returned (.int .i64 (k : Int)) ∧ w' = w := by
 obtain ⟨u, hu⟩ : ∃ u : Nat, i % 18446744073709551616 = (u : Int) := ⟨(i % 18446744073709551616).toNat, by omega⟩
 have hw : IntKind.u64.wrap i = (u : Int) := by rw [wrapU, hu]
 have hmod : (u : Int).tmod (n : Int) = ((u % n : Nat) : Int) := by rw [Int.tmod_eq_emod_of_nonneg (by omega), Int.natCast_emod]
 have hk : u % n < n := Nat.mod_lt _ hn
 obtain ⟨k, hke⟩ : ∃ k, u % n = k := ⟨_, rfl⟩
 rw [hke] at hmod hk
 have hn0 : ((n : Int) == 0) = false := by simp; omega
 clear hke hu
 go_enter Tryz.func26, Tryz.ntmps26
 go_wp2
 go_ret
 exact ⟨k, hk, by go_num, rfl⟩
end Go.Proofs.YtbkaiifplahhpaaGreatDoor
namespace Go.Proofs.YtbkaiifplahhpaaGreatDoor
open Go.RowKit
theorem Own.int {B : Nat} {w : World} {neg : Bool} {ao : Option Addr} {l c : Nat} {v : Int} (h : Own B w .u64 68 ao l c (mag v.natAbs)) (hs : neg = sgB v) : IntAt w neg ao l c v := ⟨hs, h.row⟩
theorem eqint_at (na nb : Bool) (ao bo : Option Addr) (la ca lb cb : Nat) (a b : Int) (w : World) (hx : IntAt w na ao la ca a) (hy : IntAt w nb bo lb cb b) (hl : la ≤ 4611686018427387904) (c : Bool) (hc : decide (a = b) = c) :
  Calls Tryz.prog 94 #[.agg #[.bool na, .slice ao la ca], .agg #[.bool nb, .slice bo lb cb]] w fun e w' => e = .returned (.bool c) ∧ Below w.heap.size w w' := by
 refine (eqint_any na nb ao bo la ca lb cb _ _ w hx.row hy.row hl).mono fun e w' h => ?_
 have e1 : (decide (na = nb) && decide (mag a.natAbs = mag b.natAbs)) = c := by
  rw [← hc]
  by_cases h1 : a = b
  ·
   subst h1; rw [hx.sg, hy.sg]; simp
  ·
   rw [decide_eq_false h1]
   by_cases h2 : na = nb
   ·
    have h3 : ¬ mag a.natAbs = mag b.natAbs := fun h3 => by
     have := limbs_inj (q := 18446744073709551616) (by decide) h3
     have e1 := sgn_of hx.sg; have e2 := sgn_of hy.sg
     rw [this, h2] at e1
     exact h1 (e1.symm.trans e2)
    simp [h3]
   ·
    simp [h2]
 rw [e1] at h; exact h
end Go.Proofs.YtbkaiifplahhpaaGreatDoor
namespace Go.Proofs.YtbkaiifplahhpaaGreatDoor
open Go.RowKit
end Go.Proofs.YtbkaiifplahhpaaGreatDoor
namespace Go.Proofs.YtbkaiifplahhpaaGreatDoor
open Go.RowKit
end Go.Proofs.YtbkaiifplahhpaaGreatDoor
namespace Go.Proofs.YtbkaiifplahhpaaGreatDoor
open Go.RowKit
def Five (W : World) (r : Nat) (na nb : Bool) (ao bo : Option Addr) (la ca lb cb : Nat) (n : Int) : Prop :=
 W.cell? ⟨r, 0, none⟩ = some (.bool na) ∧ W.cell? ⟨r, 1, none⟩ = some (.slice ao la ca) ∧ W.cell? ⟨r, 2, none⟩ = some (.bool nb) ∧ W.cell? ⟨r, 3, none⟩ = some (.slice bo lb cb) ∧ W.cell? ⟨r, 4, none⟩ = some (.int .i64 n)
theorem Five.later {W w2 : World} {r : Nat} {na nb : Bool} {ao bo : Option Addr} {la ca lb cb : Nat} {n : Int} (k : Five W r na nb ao bo la ca lb cb n) (h : Below W.heap.size W w2) (hr : r < W.heap.size) : Five w2 r na nb ao bo la ca lb cb n :=
 ⟨(h.cell (p := ⟨r, 0, none⟩) hr).trans k.1, (h.cell (p := ⟨r, 1, none⟩) hr).trans k.2.1, (h.cell (p := ⟨r, 2, none⟩) hr).trans k.2.2.1, (h.cell (p := ⟨r, 3, none⟩) hr).trans k.2.2.2.1, (h.cell (p := ⟨r, 4, none⟩) hr).trans k.2.2.2.2⟩
theorem may_at (neg : Bool) (ao : Option Addr) (len cap : Nat) (zs : List Int) (w : World) (hr : RowAt w .u64 ao len cap zs) (hl : len ≤ 4611686018427387904) (c : Bool) (hc : mayB neg zs = c) :
  Calls Tryz.prog 71 #[.agg #[.bool neg, .slice ao len cap]] w fun e w' => e = .returned (.bool c) ∧ Below w.heap.size w w' := by
 refine (may_any neg ao len cap zs w hr hl).mono fun e w' h => ?_
 rw [hc] at h; exact h
end Go.Proofs.YtbkaiifplahhpaaGreatDoor
namespace Go.Proofs.YtbkaiifplahhpaaGreatDoor
open Go.RowKit
def ElemAt (w : World) (b o : Nat) : Prop :=
 ∃ (na nb : Bool) (ao bo : Option Addr) (la ca lb cb : Nat) (n : Int) (x y : List Int),
  (w.cell? ⟨b, o, none⟩ = some (.bool na) ∧ w.cell? ⟨b, o + 1, none⟩ = some (.slice ao la ca) ∧ w.cell? ⟨b, o + 2, none⟩ = some (.bool nb) ∧ w.cell? ⟨b, o + 3, none⟩ = some (.slice bo lb cb) ∧ w.cell? ⟨b, o + 4, none⟩ = some (.int .i64 n)) ∧
  RowAt w .u64 ao la ca x ∧ Wd 18446744073709551616 x ∧ RowAt w .u64 bo lb cb y ∧ Wd 18446744073709551616 y ∧ -9223372036854775808 ≤ n ∧ n ≤ 9223372036854775807
theorem ElemAt.later {w w' : World} {b o : Nat} (h : ElemAt w b o) (hb : Below w.heap.size w w') (hlt : b < w.heap.size) : ElemAt w' b o := by
 obtain ⟨na, nb, ao, bo, la, ca, lb, cb, n, x, y, ⟨h0, h1, h2, h3, h4⟩, hx, wx, hy, wy, hn⟩ := h
 exact ⟨na, nb, ao, bo, la, ca, lb, cb, n, x, y, ⟨(hb.cell (p := ⟨b, o, none⟩) hlt).trans h0, (hb.cell (p := ⟨b, o + 1, none⟩) hlt).trans h1, (hb.cell (p := ⟨b, o + 2, none⟩) hlt).trans h2, (hb.cell (p := ⟨b, o + 3, none⟩) hlt).trans h3, (hb.cell (p := ⟨b, o + 4, none⟩) hlt).trans h4⟩, hx.later hb, wx, hy.later hb, wy, hn⟩
end Go.Proofs.YtbkaiifplahhpaaGreatDoor
