/-
  DERIVED. GIVEN WITH THE SEED: THE CARDS: each row of YtnniipekcbjloaaDoorRows.lean that lists a variable, with what it lists TIED to the program's text (the seventh form; the later family's looks); each row that meets fmt, with fmt's text TOLD by the authors' own Lean function (tested against real Go, not proved from fmt's source: count such statements apart). THE CARD IS WHAT COUNTS. Prove the row's statement (the work); the ties are given (YtnniipekcbjloaaDoorTie.lean); close each card by the builder's one call (the guide's Derived/Test/ToyasCard.lean, 'card_holds'). Laid BY PROGRAM, IN A SANDBOX (cutbox-door.mjs). By AI agents, Wed Nov 11 2026. No macro, syntax, notation, axiom, sorry.
-/
import Derived.Test.YtnniipekcbjloaaDoorRows
import GoSem.ClaimSeven
namespace Go.Proofs.YtnniipekcbjloaaDoor
namespace Rows

/-- THE TIED CARD OF 'terracelaw11.ModExact'. -/
def modExactCard : Claim7 := { stood := { row := modExactRow, standIns := [], harness := (true, "ae7b0ae8a01cd2dd4365f667fe3deaf90b807e1e4dce43bc04719f2b75abdf2a"), looks := false }, kinds := [], alts := [], laidByText := true, laidKinds := [.data], laidTests := true, laidLooks := .later }
def ModExactCardSaid : Prop := Claim7.holds Tryd.pinned (.plain (OpenSpec.ofChange modExactSpec)) modExactCard

/-- THE TIED CARD OF 'terracelaw11.ModDivides'. -/
def modDividesCard : Claim7 := { stood := { row := modDividesRow, standIns := [], harness := (true, "ae7b0ae8a01cd2dd4365f667fe3deaf90b807e1e4dce43bc04719f2b75abdf2a"), looks := false }, kinds := [], alts := [], laidByText := true, laidKinds := [.data], laidTests := true, laidLooks := .later }
def ModDividesCardSaid : Prop := Claim7.holds Tryd.pinned (.plain (OpenSpec.ofChange modDividesSpec)) modDividesCard

/-- THE SECOND FORM's CARD OF 'terracelaw11.ModExact'. -/
def modExactUptoCard : Claim7 := { stood := { row := modExactUptoRow, standIns := [], harness := (true, "ae7b0ae8a01cd2dd4365f667fe3deaf90b807e1e4dce43bc04719f2b75abdf2a"), looks := false }, kinds := [], alts := [], laidByText := true, laidKinds := [.data], laidTests := true, laidLooks := .later }
def ModExactUptoCardSaid : Prop := Claim7.holds Tryd.pinned (.plain (OpenSpec.upto modExactSpec)) modExactUptoCard

/-- THE SECOND FORM's CARD OF 'terracelaw11.ModDivides'. -/
def modDividesUptoCard : Claim7 := { stood := { row := modDividesUptoRow, standIns := [], harness := (true, "ae7b0ae8a01cd2dd4365f667fe3deaf90b807e1e4dce43bc04719f2b75abdf2a"), looks := false }, kinds := [], alts := [], laidByText := true, laidKinds := [.data], laidTests := true, laidLooks := .later }
def ModDividesUptoCardSaid : Prop := Claim7.holds Tryd.pinned (.plain (OpenSpec.upto modDividesSpec)) modDividesUptoCard
end Rows
end Go.Proofs.YtnniipekcbjloaaDoor
