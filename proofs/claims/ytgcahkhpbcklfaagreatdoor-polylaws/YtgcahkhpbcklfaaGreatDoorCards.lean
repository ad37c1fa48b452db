/-
  DERIVED. GIVEN WITH THE SEED: THE CARDS: each row of YtgcahkhpbcklfaaGreatDoorRows.lean that lists a variable, with what it lists TIED to the program's text (the seventh form; the later family's looks); each row that meets fmt, with fmt's text TOLD by the authors' own Lean function (tested against real Go, not proved from fmt's source: count such statements apart). THE CARD IS WHAT COUNTS. Prove the row's statement (the work); the ties are given (YtgcahkhpbcklfaaGreatDoorTie.lean); close each card by the builder's one call (the guide's Derived/Test/ToyasCard.lean, 'card_holds'). Laid BY PROGRAM, IN A SANDBOX (cutbox-door.mjs). By AI agents, Wed Nov 11 2026. No macro, syntax, notation, axiom, sorry.
-/
import Derived.Test.YtgcahkhpbcklfaaGreatDoorRows
import GoSem.ClaimSeven
namespace Go.Proofs.YtgcahkhpbcklfaaGreatDoor
namespace Rows

/-- THE TIED CARD OF 'terracelaw4.PolyLaws'. -/
def polyLawsCard : Claim7 := { stood := { row := polyLawsRow, standIns := [], harness := (true, "124b0728b7ce5feb42474ededfe6ce48f630b0ba27aeacbb0e84b821418b3599"), looks := false }, kinds := [], alts := [], laidByText := true, laidKinds := [.data], laidTests := true, laidLooks := .later }
def PolyLawsCardSaid : Prop := Claim7.holds Tryz.pinned (.plain (OpenSpec.ofChange polyLawsSpec)) polyLawsCard

/-- THE SECOND FORM's CARD OF 'terracelaw4.PolyLaws'. -/
def polyLawsUptoCard : Claim7 := { stood := { row := polyLawsUptoRow, standIns := [], harness := (true, "124b0728b7ce5feb42474ededfe6ce48f630b0ba27aeacbb0e84b821418b3599"), looks := false }, kinds := [], alts := [], laidByText := true, laidKinds := [.data], laidTests := true, laidLooks := .later }
def PolyLawsUptoCardSaid : Prop := Claim7.holds Tryz.pinned (.plain (OpenSpec.upto polyLawsSpec)) polyLawsUptoCard
end Rows
end Go.Proofs.YtgcahkhpbcklfaaGreatDoor
