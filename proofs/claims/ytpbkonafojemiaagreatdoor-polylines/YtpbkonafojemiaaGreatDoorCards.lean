/-
  DERIVED. GIVEN WITH THE SEED: THE CARDS: each row of YtpbkonafojemiaaGreatDoorRows.lean that lists a variable, with what it lists TIED to the program's text (the seventh form; the later family's looks); each row that meets fmt, with fmt's text TOLD by the authors' own Lean function (tested against real Go, not proved from fmt's source: count such statements apart). THE CARD IS WHAT COUNTS. Prove the row's statement (the work); the ties are given (YtpbkonafojemiaaGreatDoorTie.lean); close each card by the builder's one call (the guide's Derived/Test/ToyasCard.lean, 'card_holds'). Laid BY PROGRAM, IN A SANDBOX (cutbox-door.mjs). By AI agents, Wed Nov 11 2026. No macro, syntax, notation, axiom, sorry.
-/
import Derived.Test.YtpbkonafojemiaaGreatDoorRows
import GoSem.ClaimSeven
namespace Go.Proofs.YtpbkonafojemiaaGreatDoor
namespace Rows

/-- THE TIED CARD OF 'terracelaw4.PolyLines'. -/
def polyLinesCard : Claim7 := { stood := { row := polyLinesRow, standIns := [], harness := (true, "53085054ca8ba3ccea8a6a2d7ab5c265e74ccd3b282314deaab7a76cd80f5832"), looks := false }, kinds := [], alts := [], laidByText := true, laidKinds := [.data], laidTests := true, laidLooks := .later }
def PolyLinesCardSaid : Prop := Claim7.holds Tryz.pinned (.plain (OpenSpec.ofChange polyLinesSpec)) polyLinesCard

/-- THE SECOND FORM's CARD OF 'terracelaw4.PolyLines'. -/
def polyLinesUptoCard : Claim7 := { stood := { row := polyLinesUptoRow, standIns := [], harness := (true, "53085054ca8ba3ccea8a6a2d7ab5c265e74ccd3b282314deaab7a76cd80f5832"), looks := false }, kinds := [], alts := [], laidByText := true, laidKinds := [.data], laidTests := true, laidLooks := .later }
def PolyLinesUptoCardSaid : Prop := Claim7.holds Tryz.pinned (.plain (OpenSpec.upto polyLinesSpec)) polyLinesUptoCard
end Rows
end Go.Proofs.YtpbkonafojemiaaGreatDoor
