/-
  DERIVED. GIVEN WITH THE SEED: THE CARDS: each row of YtbkaiifplahhpaaGreatDoorRows.lean that lists a variable, with what it lists TIED to the program's text (the seventh form; the later family's looks); each row that meets fmt, with fmt's text TOLD by the authors' own Lean function (tested against real Go, not proved from fmt's source: count such statements apart). THE CARD IS WHAT COUNTS. Prove the row's statement (the work); the ties are given (YtbkaiifplahhpaaGreatDoorTie.lean); close each card by the builder's one call (the guide's Derived/Test/ToyasCard.lean, 'card_holds'). Laid BY PROGRAM, IN A SANDBOX (cutbox-door.mjs). By AI agents, Wed Nov 11 2026. No macro, syntax, notation, axiom, sorry.
-/
import Derived.Test.YtbkaiifplahhpaaGreatDoorRows
import GoSem.ClaimSeven
namespace Go.Proofs.YtbkaiifplahhpaaGreatDoor
namespace Rows

/-- THE TIED CARD OF 'terracelaw3.SpanExact'. -/
def spanExactCard : Claim7 := { stood := { row := spanExactRow, standIns := [], harness := (true, "0e8fea90bf736f5c0b4c82859f4bdcd73fceb99634a9be96e1cc3e7535cf96c3"), looks := false }, kinds := [], alts := [], laidByText := true, laidKinds := [.data], laidTests := true, laidLooks := .later }
def SpanExactCardSaid : Prop := Claim7.holds Tryz.pinned (.plain (OpenSpec.ofChange spanExactSpec)) spanExactCard

/-- THE TIED CARD OF 'terracelaw3.SpanHolds'. -/
def spanHoldsCard : Claim7 := { stood := { row := spanHoldsRow, standIns := [], harness := (true, "0e8fea90bf736f5c0b4c82859f4bdcd73fceb99634a9be96e1cc3e7535cf96c3"), looks := false }, kinds := [], alts := [], laidByText := true, laidKinds := [.data], laidTests := true, laidLooks := .later }
def SpanHoldsCardSaid : Prop := Claim7.holds Tryz.pinned (.plain (OpenSpec.ofChange spanHoldsSpec)) spanHoldsCard

/-- THE SECOND FORM's CARD OF 'terracelaw3.SpanExact'. -/
def spanExactUptoCard : Claim7 := { stood := { row := spanExactUptoRow, standIns := [], harness := (true, "0e8fea90bf736f5c0b4c82859f4bdcd73fceb99634a9be96e1cc3e7535cf96c3"), looks := false }, kinds := [], alts := [], laidByText := true, laidKinds := [.data], laidTests := true, laidLooks := .later }
def SpanExactUptoCardSaid : Prop := Claim7.holds Tryz.pinned (.plain (OpenSpec.upto spanExactSpec)) spanExactUptoCard

/-- THE SECOND FORM's CARD OF 'terracelaw3.SpanHolds'. -/
def spanHoldsUptoCard : Claim7 := { stood := { row := spanHoldsUptoRow, standIns := [], harness := (true, "0e8fea90bf736f5c0b4c82859f4bdcd73fceb99634a9be96e1cc3e7535cf96c3"), looks := false }, kinds := [], alts := [], laidByText := true, laidKinds := [.data], laidTests := true, laidLooks := .later }
def SpanHoldsUptoCardSaid : Prop := Claim7.holds Tryz.pinned (.plain (OpenSpec.upto spanHoldsSpec)) spanHoldsUptoCard
end Rows
end Go.Proofs.YtbkaiifplahhpaaGreatDoor
