/-
  A pack of walks and facts: LA0.
-/
import Derived.Test.YthgnaceokcaieaaGreatDoorPD06
set_option maxRecDepth 100000
set_option maxHeartbeats 40000000
set_option linter.unusedVariables false
set_option linter.unusedSimpArgs false
namespace Go.Proofs.YthgnaceokcaieaaGreatDoor
open Go.RowKit
def ElemAt (w : World) (b o : Nat) : Prop :=
 ∃ (na nb : Bool) (ao bo : Option Addr) (la ca lb cb : Nat) (n : Int) (x y : List Int),
  (w.cell? ⟨b, o, none⟩ = some (.bool na) ∧ w.cell? ⟨b, o + 1, none⟩ = some (.slice ao la ca) ∧ w.cell? ⟨b, o + 2, none⟩ = some (.bool nb) ∧ w.cell? ⟨b, o + 3, none⟩ = some (.slice bo lb cb) ∧ w.cell? ⟨b, o + 4, none⟩ = some (.int .i64 n)) ∧
  RowAt w .u64 ao la ca x ∧ Wd 18446744073709551616 x ∧ RowAt w .u64 bo lb cb y ∧ Wd 18446744073709551616 y ∧ -9223372036854775808 ≤ n ∧ n ≤ 9223372036854775807
theorem ElemAt.later {w w' : World} {b o : Nat} (h : ElemAt w b o) (hb : Below w.heap.size w w') (hlt : b < w.heap.size) : ElemAt w' b o := by
 obtain ⟨na, nb, ao, bo, la, ca, lb, cb, n, x, y, ⟨h0, h1, h2, h3, h4⟩, hx, wx, hy, wy, hn⟩ := h
 exact ⟨na, nb, ao, bo, la, ca, lb, cb, n, x, y, ⟨(hb.cell (p := ⟨b, o, none⟩) hlt).trans h0, (hb.cell (p := ⟨b, o + 1, none⟩) hlt).trans h1, (hb.cell (p := ⟨b, o + 2, none⟩) hlt).trans h2, (hb.cell (p := ⟨b, o + 3, none⟩) hlt).trans h3, (hb.cell (p := ⟨b, o + 4, none⟩) hlt).trans h4⟩, hx.later hb, wx, hy.later hb, wy, hn⟩
end Go.Proofs.YthgnaceokcaieaaGreatDoor
