/-
  WM, WN, WO.
-/
import Derived.Test.YtnodcfeimiimbaaDoorWL
import Derived.Test.YtnodcfeimiimbaaDoorWC

/- Walks: Small. -/
namespace Go.Proofs.YtnodcfeimiimbaaDoor
open Go.RowKit
set_option linter.unusedVariables false
set_option linter.unusedSimpArgs false

/-- is it an int64? -/
def smallB (v : Int) : Bool := decide (-9223372036854775808 ≤ v ∧ v < 9223372036854775808)
def smallI (v : Int) : Int := if smallB v then v else 0
theorem small_yes {v : Int} (h : -9223372036854775808 ≤ v ∧ v < 9223372036854775808) : smallB v = true ∧ smallI v = v := by
  have : smallB v = true := decide_eq_true h
  exact ⟨this, by unfold smallI; rw [this]; rfl⟩
theorem small_no {v : Int} (h : ¬ (-9223372036854775808 ≤ v ∧ v < 9223372036854775808)) : smallB v = false ∧ smallI v = 0 := by
  have : smallB v = false := decide_eq_false h
  exact ⟨this, by unfold smallI; rw [this]; rfl⟩
theorem ret_two {x y : Int} {b : Bool} (h : x = y) : Ending.returned (.tuple #[.int .i64 x, .bool b]) = .returned (.tuple #[.int .i64 y, .bool b]) := by rw [h]

end Go.Proofs.YtnodcfeimiimbaaDoor

/- Walks: the page's own Small. -/
namespace Go.Proofs.YtnodcfeimiimbaaDoor
open Go.RowKit
set_option linter.unusedVariables false
set_option linter.unusedSimpArgs false

end Go.Proofs.YtnodcfeimiimbaaDoor

/- Walks: the law's own helpers. -/
namespace Go.Proofs.YtnodcfeimiimbaaDoor
open Go.RowKit
set_option linter.unusedVariables false
set_option linter.unusedSimpArgs false

/-- two numbers and a count, handed in -/
def Five (W : World) (r : Nat) (na nb : Bool) (ao bo : Option Addr) (la ca lb cb : Nat) (n : Int) : Prop :=
  W.cell? ⟨r, 0, none⟩ = some (.bool na) ∧ W.cell? ⟨r, 1, none⟩ = some (.slice ao la ca) ∧ W.cell? ⟨r, 2, none⟩ = some (.bool nb) ∧ W.cell? ⟨r, 3, none⟩ = some (.slice bo lb cb) ∧ W.cell? ⟨r, 4, none⟩ = some (.int .i64 n)
theorem Five.later {W w2 : World} {r : Nat} {na nb : Bool} {ao bo : Option Addr} {la ca lb cb : Nat} {n : Int} (k : Five W r na nb ao bo la ca lb cb n) (h : Below W.heap.size W w2) (hr : r < W.heap.size) : Five w2 r na nb ao bo la ca lb cb n :=
  ⟨(h.cell (p := ⟨r, 0, none⟩) hr).trans k.1, (h.cell (p := ⟨r, 1, none⟩) hr).trans k.2.1, (h.cell (p := ⟨r, 2, none⟩) hr).trans k.2.2.1, (h.cell (p := ⟨r, 3, none⟩) hr).trans k.2.2.2.1, (h.cell (p := ⟨r, 4, none⟩) hr).trans k.2.2.2.2⟩
structure In5 (w W : World) (na nb : Bool) (ao bo : Option Addr) (la ca lb cb : Nat) (n : Int) : Prop where
  eq : W = w.alloc (.cells #[.bool na, .slice ao la ca, .bool nb, .slice bo lb cb, .int .i64 n] 32)
  below : Below w.heap.size w W
  size : W.heap.size = w.heap.size + 1
  p : Five W w.heap.size na nb ao bo la ca lb cb n
theorem In5.mk' (w : World) (na nb : Bool) (ao bo : Option Addr) (la ca lb cb : Nat) (n : Int) : ∃ W, In5 w W na nb ao bo la ca lb cb n :=
  ⟨_, rfl, (Below.refl _ _).alloc (Nat.le_refl _) _, by simp, ⟨by simp [go_sem], by simp [go_sem], by simp [go_sem], by simp [go_sem], by simp [go_sem]⟩⟩

set_option maxRecDepth 100000 in
set_option maxHeartbeats 1000000 in
theorem heavy_any (na nb : Bool) (ao bo : Option Addr) (la ca lb cb : Nat) (n : Int) (w : World) (c : Bool) (hc : (decide (30 < (la : Int)) || decide (30 < (lb : Int))) = c) :
    Calls Tryd.prog 4 #[.agg #[.bool na, .slice ao la ca, .bool nb, .slice bo lb cb, .int .i64 n]] w fun e w' => e = .returned (.bool c) ∧ Below w.heap.size w w' := by
  obtain ⟨W, hT⟩ := In5.mk' w na nb ao bo la ca lb cb n
  have hsz := hT.size
  by_cases h1 : 30 < (la : Int)
  · rw [decide_eq_true h1, Bool.true_or] at hc
    subst hc
    have hcon : ∀ W', Calls Tryd.prog 13 #[.agg #[.bool na, .slice ao la ca], .int .i64 30] W' fun e w' => e = .returned (.bool true) ∧ Below W'.heap.size W' w' := fun W' => (long_any na ao la ca 30 W').mono fun e w' h => by rw [decide_eq_true h1] at h; exact h
    clear h1
    go_enter Tryd.func4, Tryd.ntmps4
    go_wp2_with (go_at_call 13; rw [← hT.eq]; refine (hcon _).mono ?_; rintro e w1 ⟨rfl, hb1⟩)
    go_ret
    exact ⟨rfl, bnext hT.below hb1⟩
  · rw [decide_eq_false h1, Bool.false_or] at hc
    have hcon : ∀ W', Calls Tryd.prog 13 #[.agg #[.bool na, .slice ao la ca], .int .i64 30] W' fun e w' => e = .returned (.bool false) ∧ Below W'.heap.size W' w' := fun W' => (long_any na ao la ca 30 W').mono fun e w' h => by rw [decide_eq_false h1] at h; exact h
    have hcon2 : ∀ W', Calls Tryd.prog 13 #[.agg #[.bool nb, .slice bo lb cb], .int .i64 30] W' fun e w' => e = .returned (.bool c) ∧ Below W'.heap.size W' w' := fun W' => (long_any nb bo lb cb 30 W').mono fun e w' h => by rw [hc] at h; exact h
    clear h1 hc
    go_enter Tryd.func4, Tryd.ntmps4
    go_wp2_with (first
      | (go_at_call 13; rw [← hT.eq]; refine (hcon _).mono ?_; rintro e w1 ⟨rfl, hb1⟩; obtain ⟨q0, q1, q2, q3, q4⟩ := hT.p.later hb1 (by omega))
      | (go_at_call 13; refine (hcon2 _).mono ?_; rintro e w2 ⟨rfl, hb2⟩))
    go_ret
    exact ⟨rfl, bnext hT.below (bnext hb1 hb2)⟩

theorem may_at (neg : Bool) (ao : Option Addr) (len cap : Nat) (zs : List Int) (w : World) (hr : RowAt w .u64 ao len cap zs) (hl : len ≤ 4611686018427387904) (c : Bool) (hc : mayB neg zs = c) :
    Calls Tryd.prog 16 #[.agg #[.bool neg, .slice ao len cap]] w fun e w' => e = .returned (.bool c) ∧ Below w.heap.size w w' := by
  refine (may_any neg ao len cap zs w hr hl).mono fun e w' h => ?_
  rw [hc] at h; exact h

set_option maxRecDepth 100000 in
set_option maxHeartbeats 1000000 in
theorem one_any (na nb : Bool) (ao bo : Option Addr) (la ca lb cb : Nat) (n : Int) (x : List Int) (w : World) (hx : RowAt w .u64 ao la ca x) (hl : la ≤ 4611686018427387904) (c : Int) (hc : (if mayB na x then 0 else 10 : Int) = c) :
    Calls Tryd.prog 6 #[.agg #[.bool na, .slice ao la ca, .bool nb, .slice bo lb cb, .int .i64 n]] w fun e w' => e = .returned (.int .i64 c) ∧ Below w.heap.size w w' := by
  obtain ⟨W, hT⟩ := In5.mk' w na nb ao bo la ca lb cb n
  have hR := hx.later hT.below
  clear hx
  cases hm : mayB na x
  · rw [hm] at hc
    have hc' : c = 10 := by simpa using hc.symm
    subst hc'
    have HM : Hid (mayB na x = false) := hm
    clear hc hm
    go_enter Tryd.func6, Tryd.ntmps6
    go_wp2_with (go_at_call 16; rw [← hT.eq]; refine (may_at na ao la ca x _ hR hl false HM.out).mono ?_; rintro e w1 ⟨rfl, hb1⟩)
    go_ret
    exact ⟨rfl, bnext hT.below hb1⟩
  · rw [hm] at hc
    have hc' : c = 0 := by simpa using hc.symm
    subst hc'
    have HM : Hid (mayB na x = true) := hm
    clear hc hm
    go_enter Tryd.func6, Tryd.ntmps6
    go_wp2_with (go_at_call 16; rw [← hT.eq]; refine (may_at na ao la ca x _ hR hl true HM.out).mono ?_; rintro e w1 ⟨rfl, hb1⟩)
    go_ret
    exact ⟨rfl, bnext hT.below hb1⟩

end Go.Proofs.YtnodcfeimiimbaaDoor
