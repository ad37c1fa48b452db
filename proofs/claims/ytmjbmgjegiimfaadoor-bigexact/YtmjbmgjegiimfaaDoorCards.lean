/-
  DERIVED. GIVEN WITH THE SEED: THE CARDS: each row of YtmjbmgjegiimfaaDoorRows.lean that lists a variable, with what it lists TIED to the program's text (the seventh form; the later family's looks); each row that meets fmt, with fmt's text TOLD by the authors' own Lean function (tested against real Go, not proved from fmt's source: count such statements apart). THE CARD IS WHAT COUNTS. Prove the row's statement (the work); the ties are given (YtmjbmgjegiimfaaDoorTie.lean); close each card by the builder's one call (the guide's Derived/Test/ToyasCard.lean, 'card_holds'). Laid BY PROGRAM, IN A SANDBOX (cutbox-door.mjs). By AI agents, Wed Nov 11 2026. No macro, syntax, notation, axiom, sorry.
-/
import Derived.Test.YtmjbmgjegiimfaaDoorRows
import GoSem.ClaimSeven
namespace Go.Proofs.YtmjbmgjegiimfaaDoor
namespace Rows

/-- THE TIED CARD OF 'terracelaw1.BigExact'. -/
def bigExactCard : Claim7 := { stood := { row := bigExactRow, standIns := [], harness := (true, "521ff66eafeb0e92daf18f87ac332d3c61aac67557f751c8c3613bcee6ea667e"), looks := false }, kinds := [], alts := [], laidByText := true, laidKinds := [.data], laidTests := true, laidLooks := .later }
def BigExactCardSaid : Prop := Claim7.holds Tryd.pinned (.plain (OpenSpec.ofChange bigExactSpec)) bigExactCard

/-- THE TIED CARD OF 'terracelaw1.BigTexts'. -/
def bigTextsCard : Claim7 := { stood := { row := bigTextsRow, standIns := [], harness := (true, "521ff66eafeb0e92daf18f87ac332d3c61aac67557f751c8c3613bcee6ea667e"), looks := false }, kinds := [], alts := [], laidByText := true, laidKinds := [.data, .data, .data], laidTests := true, laidLooks := .later }
def BigTextsCardSaid : Prop := Claim7.holds Tryd.pinned (.plain (OpenSpec.ofChange bigTextsSpec)) bigTextsCard

/-- THE SECOND FORM's CARD OF 'terracelaw1.BigExact'. -/
def bigExactUptoCard : Claim7 := { stood := { row := bigExactUptoRow, standIns := [], harness := (true, "521ff66eafeb0e92daf18f87ac332d3c61aac67557f751c8c3613bcee6ea667e"), looks := false }, kinds := [], alts := [], laidByText := true, laidKinds := [.data], laidTests := true, laidLooks := .later }
def BigExactUptoCardSaid : Prop := Claim7.holds Tryd.pinned (.plain (OpenSpec.upto bigExactSpec)) bigExactUptoCard

/-- THE SECOND FORM's CARD OF 'terracelaw1.BigTexts'. -/
def bigTextsUptoCard : Claim7 := { stood := { row := bigTextsUptoRow, standIns := [], harness := (true, "521ff66eafeb0e92daf18f87ac332d3c61aac67557f751c8c3613bcee6ea667e"), looks := false }, kinds := [], alts := [], laidByText := true, laidKinds := [.data, .data, .data], laidTests := true, laidLooks := .later }
def BigTextsUptoCardSaid : Prop := Claim7.holds Tryd.pinned (.plain (OpenSpec.upto bigTextsSpec)) bigTextsUptoCard
end Rows
end Go.Proofs.YtmjbmgjegiimfaaDoor
