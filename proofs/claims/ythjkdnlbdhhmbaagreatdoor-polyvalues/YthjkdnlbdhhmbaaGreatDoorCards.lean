/-
  DERIVED. GIVEN WITH THE SEED: THE CARDS: each row of YthjkdnlbdhhmbaaGreatDoorRows.lean that lists a variable, with what it lists TIED to the program's text (the seventh form; the later family's looks); each row that meets fmt, with fmt's text TOLD by the authors' own Lean function (tested against real Go, not proved from fmt's source: count such statements apart). THE CARD IS WHAT COUNTS. Prove the row's statement (the work); the ties are given (YthjkdnlbdhhmbaaGreatDoorTie.lean); close each card by the builder's one call (the guide's Derived/Test/ToyasCard.lean, 'card_holds'). Laid BY PROGRAM, IN A SANDBOX (cutbox-door.mjs). By AI agents, Wed Nov 11 2026. No macro, syntax, notation, axiom, sorry.
-/
import Derived.Test.YthjkdnlbdhhmbaaGreatDoorRows
import GoSem.ClaimSeven
namespace Go.Proofs.YthjkdnlbdhhmbaaGreatDoor
namespace Rows

/-- THE TIED CARD OF 'terracelaw4.PolyValues'. -/
def polyValuesCard : Claim7 := { stood := { row := polyValuesRow, standIns := [], harness := (true, "5560c09e6a32c88bf8fc5a05e96f1ceb2d8a6f20ddd4163924fefbc7b01a119c"), looks := false }, kinds := [], alts := [], laidByText := true, laidKinds := [.data], laidTests := true, laidLooks := .later }
def PolyValuesCardSaid : Prop := Claim7.holds Tryz.pinned (.plain (OpenSpec.ofChange polyValuesSpec)) polyValuesCard

/-- THE TIED CARD OF 'terracelaw4.PolyHolds'. -/
def polyHoldsCard : Claim7 := { stood := { row := polyHoldsRow, standIns := [], harness := (true, "5560c09e6a32c88bf8fc5a05e96f1ceb2d8a6f20ddd4163924fefbc7b01a119c"), looks := false }, kinds := [], alts := [], laidByText := true, laidKinds := [.data], laidTests := true, laidLooks := .later }
def PolyHoldsCardSaid : Prop := Claim7.holds Tryz.pinned (.plain (OpenSpec.ofChange polyHoldsSpec)) polyHoldsCard

/-- THE SECOND FORM's CARD OF 'terracelaw4.PolyValues'. -/
def polyValuesUptoCard : Claim7 := { stood := { row := polyValuesUptoRow, standIns := [], harness := (true, "5560c09e6a32c88bf8fc5a05e96f1ceb2d8a6f20ddd4163924fefbc7b01a119c"), looks := false }, kinds := [], alts := [], laidByText := true, laidKinds := [.data], laidTests := true, laidLooks := .later }
def PolyValuesUptoCardSaid : Prop := Claim7.holds Tryz.pinned (.plain (OpenSpec.upto polyValuesSpec)) polyValuesUptoCard

/-- THE SECOND FORM's CARD OF 'terracelaw4.PolyHolds'. -/
def polyHoldsUptoCard : Claim7 := { stood := { row := polyHoldsUptoRow, standIns := [], harness := (true, "5560c09e6a32c88bf8fc5a05e96f1ceb2d8a6f20ddd4163924fefbc7b01a119c"), looks := false }, kinds := [], alts := [], laidByText := true, laidKinds := [.data], laidTests := true, laidLooks := .later }
def PolyHoldsUptoCardSaid : Prop := Claim7.holds Tryz.pinned (.plain (OpenSpec.upto polyHoldsSpec)) polyHoldsUptoCard
end Rows
end Go.Proofs.YthjkdnlbdhhmbaaGreatDoor
