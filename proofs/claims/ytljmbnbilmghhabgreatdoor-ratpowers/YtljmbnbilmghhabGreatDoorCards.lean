/-
  DERIVED. GIVEN WITH THE SEED: THE CARDS: each row of YtljmbnbilmghhabGreatDoorRows.lean that lists a variable, with what it lists TIED to the program's text (the seventh form; the later family's looks); each row that meets fmt, with fmt's text TOLD by the authors' own Lean function (tested against real Go, not proved from fmt's source: count such statements apart). THE CARD IS WHAT COUNTS. Prove the row's statement (the work); the ties are given (YtljmbnbilmghhabGreatDoorTie.lean); close each card by the builder's one call (the guide's Derived/Test/ToyasCard.lean, 'card_holds'). Laid BY PROGRAM, IN A SANDBOX (cutbox-door.mjs). By AI agents, Wed Nov 11 2026. No macro, syntax, notation, axiom, sorry.
-/
import Derived.Test.YtljmbnbilmghhabGreatDoorRows
import GoSem.ClaimSeven
namespace Go.Proofs.YtljmbnbilmghhabGreatDoor
namespace Rows

/-- THE TIED CARD OF 'terracelaw2.RatPowers'. -/
def ratPowersCard : Claim7 := { stood := { row := ratPowersRow, standIns := [], harness := (true, "990c250f794d3e8503081c189f0cb747baa43401d353f9f2ebe43a787fea7aca"), looks := false }, kinds := [], alts := [], laidByText := true, laidKinds := [.data, .data, .data], laidTests := true, laidLooks := .later }
def RatPowersCardSaid : Prop := Claim7.holds Tryz.pinned (.plain (OpenSpec.ofChange ratPowersSpec)) ratPowersCard

/-- THE SECOND FORM's CARD OF 'terracelaw2.RatPowers'. -/
def ratPowersUptoCard : Claim7 := { stood := { row := ratPowersUptoRow, standIns := [], harness := (true, "990c250f794d3e8503081c189f0cb747baa43401d353f9f2ebe43a787fea7aca"), looks := false }, kinds := [], alts := [], laidByText := true, laidKinds := [.data, .data, .data], laidTests := true, laidLooks := .later }
def RatPowersUptoCardSaid : Prop := Claim7.holds Tryz.pinned (.plain (OpenSpec.upto ratPowersSpec)) ratPowersUptoCard
end Rows
end Go.Proofs.YtljmbnbilmghhabGreatDoor
