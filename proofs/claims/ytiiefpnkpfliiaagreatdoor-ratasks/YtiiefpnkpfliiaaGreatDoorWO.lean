/-
  WM, WN, WO.
-/
import Derived.Test.YtiiefpnkpfliiaaGreatDoorWP
import Derived.Test.YtiiefpnkpfliiaaGreatDoorWC

/- Walks: Small. -/
namespace Go.Proofs.YtiiefpnkpfliiaaGreatDoor
open Go.RowKit
set_option linter.unusedVariables false
set_option linter.unusedSimpArgs false

/-- is it an int64? -/
def smallB (v : Int) : Bool := decide (-9223372036854775808 ≤ v ∧ v < 9223372036854775808)
def smallI (v : Int) : Int := if smallB v then v else 0
theorem small_yes {v : Int} (h : -9223372036854775808 ≤ v ∧ v < 9223372036854775808) : smallB v = true ∧ smallI v = v := by
  have : smallB v = true := decide_eq_true h
  exact ⟨this, by unfold smallI; rw [this]; rfl⟩
theorem small_no {v : Int} (h : ¬ (-9223372036854775808 ≤ v ∧ v < 9223372036854775808)) : smallB v = false ∧ smallI v = 0 := by
  have : smallB v = false := decide_eq_false h
  exact ⟨this, by unfold smallI; rw [this]; rfl⟩
theorem ret_two {x y : Int} {b : Bool} (h : x = y) : Ending.returned (.tuple #[.int .i64 x, .bool b]) = .returned (.tuple #[.int .i64 y, .bool b]) := by rw [h]

end Go.Proofs.YtiiefpnkpfliiaaGreatDoor

/- Walks: the page's own Small. -/
namespace Go.Proofs.YtiiefpnkpfliiaaGreatDoor
open Go.RowKit
set_option linter.unusedVariables false
set_option linter.unusedSimpArgs false

end Go.Proofs.YtiiefpnkpfliiaaGreatDoor

/- Walks: the law's own helpers. -/
namespace Go.Proofs.YtiiefpnkpfliiaaGreatDoor
open Go.RowKit
set_option linter.unusedVariables false
set_option linter.unusedSimpArgs false

/-- two numbers and a count, handed in -/
def Five (W : World) (r : Nat) (na nb : Bool) (ao bo : Option Addr) (la ca lb cb : Nat) (n : Int) : Prop :=
  W.cell? ⟨r, 0, none⟩ = some (.bool na) ∧ W.cell? ⟨r, 1, none⟩ = some (.slice ao la ca) ∧ W.cell? ⟨r, 2, none⟩ = some (.bool nb) ∧ W.cell? ⟨r, 3, none⟩ = some (.slice bo lb cb) ∧ W.cell? ⟨r, 4, none⟩ = some (.int .i64 n)
theorem Five.later {W w2 : World} {r : Nat} {na nb : Bool} {ao bo : Option Addr} {la ca lb cb : Nat} {n : Int} (k : Five W r na nb ao bo la ca lb cb n) (h : Below W.heap.size W w2) (hr : r < W.heap.size) : Five w2 r na nb ao bo la ca lb cb n :=
  ⟨(h.cell (p := ⟨r, 0, none⟩) hr).trans k.1, (h.cell (p := ⟨r, 1, none⟩) hr).trans k.2.1, (h.cell (p := ⟨r, 2, none⟩) hr).trans k.2.2.1, (h.cell (p := ⟨r, 3, none⟩) hr).trans k.2.2.2.1, (h.cell (p := ⟨r, 4, none⟩) hr).trans k.2.2.2.2⟩
theorem may_at (neg : Bool) (ao : Option Addr) (len cap : Nat) (zs : List Int) (w : World) (hr : RowAt w .u64 ao len cap zs) (hl : len ≤ 4611686018427387904) (c : Bool) (hc : mayB neg zs = c) :
    Calls Tryz.prog 34 #[.agg #[.bool neg, .slice ao len cap]] w fun e w' => e = .returned (.bool c) ∧ Below w.heap.size w w' := by
  refine (may_any neg ao len cap zs w hr hl).mono fun e w' h => ?_
  rw [hc] at h; exact h

end Go.Proofs.YtiiefpnkpfliiaaGreatDoor
