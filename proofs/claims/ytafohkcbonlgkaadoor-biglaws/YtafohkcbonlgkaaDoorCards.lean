/-
  DERIVED. GIVEN WITH THE SEED: THE CARDS: each row of YtafohkcbonlgkaaDoorRows.lean that lists a variable, with what it lists TIED to the program's text (the seventh form; the later family's looks); each row that meets fmt, with fmt's text TOLD by the authors' own Lean function (tested against real Go, not proved from fmt's source: count such statements apart). THE CARD IS WHAT COUNTS. Prove the row's statement (the work); the ties are given (YtafohkcbonlgkaaDoorTie.lean); close each card by the builder's one call (the guide's Derived/Test/ToyasCard.lean, 'card_holds'). Laid BY PROGRAM, IN A SANDBOX (cutbox-door.mjs). By AI agents, Wed Nov 11 2026. No macro, syntax, notation, axiom, sorry.
-/
import Derived.Test.YtafohkcbonlgkaaDoorRows
import GoSem.ClaimSeven
namespace Go.Proofs.YtafohkcbonlgkaaDoor
namespace Rows

/-- THE TIED CARD OF 'terracelaw1.BigExact'. -/
def bigExactCard : Claim7 := { stood := { row := bigExactRow, standIns := [], harness := (true, "5292d23d41d9ea4a1dc9173407c8d26005f633a7a41f135cca1779a4a0979676"), looks := false }, kinds := [], alts := [], laidByText := true, laidKinds := [.data], laidTests := true, laidLooks := .later }
def BigExactCardSaid : Prop := Claim7.holds Tryd.pinned (.plain (OpenSpec.ofChange bigExactSpec)) bigExactCard

/-- THE TIED CARD OF 'terracelaw1.BigTexts'. -/
def bigTextsCard : Claim7 := { stood := { row := bigTextsRow, standIns := [], harness := (true, "5292d23d41d9ea4a1dc9173407c8d26005f633a7a41f135cca1779a4a0979676"), looks := false }, kinds := [], alts := [], laidByText := true, laidKinds := [.data, .data, .data], laidTests := true, laidLooks := .later }
def BigTextsCardSaid : Prop := Claim7.holds Tryd.pinned (.plain (OpenSpec.ofChange bigTextsSpec)) bigTextsCard

/-- THE TIED CARD OF 'terracelaw1.BigLaws'. -/
def bigLawsCard : Claim7 := { stood := { row := bigLawsRow, standIns := [], harness := (true, "5292d23d41d9ea4a1dc9173407c8d26005f633a7a41f135cca1779a4a0979676"), looks := false }, kinds := [], alts := [], laidByText := true, laidKinds := [.data], laidTests := true, laidLooks := .later }
def BigLawsCardSaid : Prop := Claim7.holds Tryd.pinned (.plain (OpenSpec.ofChange bigLawsSpec)) bigLawsCard

/-- THE SECOND FORM's CARD OF 'terracelaw1.BigExact'. -/
def bigExactUptoCard : Claim7 := { stood := { row := bigExactUptoRow, standIns := [], harness := (true, "5292d23d41d9ea4a1dc9173407c8d26005f633a7a41f135cca1779a4a0979676"), looks := false }, kinds := [], alts := [], laidByText := true, laidKinds := [.data], laidTests := true, laidLooks := .later }
def BigExactUptoCardSaid : Prop := Claim7.holds Tryd.pinned (.plain (OpenSpec.upto bigExactSpec)) bigExactUptoCard

/-- THE SECOND FORM's CARD OF 'terracelaw1.BigTexts'. -/
def bigTextsUptoCard : Claim7 := { stood := { row := bigTextsUptoRow, standIns := [], harness := (true, "5292d23d41d9ea4a1dc9173407c8d26005f633a7a41f135cca1779a4a0979676"), looks := false }, kinds := [], alts := [], laidByText := true, laidKinds := [.data, .data, .data], laidTests := true, laidLooks := .later }
def BigTextsUptoCardSaid : Prop := Claim7.holds Tryd.pinned (.plain (OpenSpec.upto bigTextsSpec)) bigTextsUptoCard

/-- THE SECOND FORM's CARD OF 'terracelaw1.BigLaws'. -/
def bigLawsUptoCard : Claim7 := { stood := { row := bigLawsUptoRow, standIns := [], harness := (true, "5292d23d41d9ea4a1dc9173407c8d26005f633a7a41f135cca1779a4a0979676"), looks := false }, kinds := [], alts := [], laidByText := true, laidKinds := [.data], laidTests := true, laidLooks := .later }
def BigLawsUptoCardSaid : Prop := Claim7.holds Tryd.pinned (.plain (OpenSpec.upto bigLawsSpec)) bigLawsUptoCard
end Rows
end Go.Proofs.YtafohkcbonlgkaaDoor
