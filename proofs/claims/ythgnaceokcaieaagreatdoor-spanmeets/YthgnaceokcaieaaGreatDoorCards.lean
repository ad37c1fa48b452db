/-
  DERIVED. GIVEN WITH THE SEED: THE CARDS: each row of YthgnaceokcaieaaGreatDoorRows.lean that lists a variable, with what it lists TIED to the program's text (the seventh form; the later family's looks); each row that meets fmt, with fmt's text TOLD by the authors' own Lean function (tested against real Go, not proved from fmt's source: count such statements apart). THE CARD IS WHAT COUNTS. Prove the row's statement (the work); the ties are given (YthgnaceokcaieaaGreatDoorTie.lean); close each card by the builder's one call (the guide's Derived/Test/ToyasCard.lean, 'card_holds'). Laid BY PROGRAM, IN A SANDBOX (cutbox-door.mjs). By AI agents, Wed Nov 11 2026. No macro, syntax, notation, axiom, sorry.
-/
import Derived.Test.YthgnaceokcaieaaGreatDoorRows
import GoSem.ClaimSeven
namespace Go.Proofs.YthgnaceokcaieaaGreatDoor
namespace Rows

/-- THE TIED CARD OF 'terracelaw3.SpanExact'. -/
def spanExactCard : Claim7 := { stood := { row := spanExactRow, standIns := [], harness := (true, "bfeeb2142d7061c1d58cb4308f94107e077345aa705e348e1484c06001503628"), looks := false }, kinds := [], alts := [], laidByText := true, laidKinds := [.data], laidTests := true, laidLooks := .later }
def SpanExactCardSaid : Prop := Claim7.holds Tryz.pinned (.plain (OpenSpec.ofChange spanExactSpec)) spanExactCard

/-- THE TIED CARD OF 'terracelaw3.SpanHolds'. -/
def spanHoldsCard : Claim7 := { stood := { row := spanHoldsRow, standIns := [], harness := (true, "bfeeb2142d7061c1d58cb4308f94107e077345aa705e348e1484c06001503628"), looks := false }, kinds := [], alts := [], laidByText := true, laidKinds := [.data], laidTests := true, laidLooks := .later }
def SpanHoldsCardSaid : Prop := Claim7.holds Tryz.pinned (.plain (OpenSpec.ofChange spanHoldsSpec)) spanHoldsCard

/-- THE TIED CARD OF 'terracelaw3.SpanMeets'. -/
def spanMeetsCard : Claim7 := { stood := { row := spanMeetsRow, standIns := [], harness := (true, "bfeeb2142d7061c1d58cb4308f94107e077345aa705e348e1484c06001503628"), looks := false }, kinds := [], alts := [], laidByText := true, laidKinds := [.data], laidTests := true, laidLooks := .later }
def SpanMeetsCardSaid : Prop := Claim7.holds Tryz.pinned (.plain (OpenSpec.ofChange spanMeetsSpec)) spanMeetsCard

/-- THE SECOND FORM's CARD OF 'terracelaw3.SpanExact'. -/
def spanExactUptoCard : Claim7 := { stood := { row := spanExactUptoRow, standIns := [], harness := (true, "bfeeb2142d7061c1d58cb4308f94107e077345aa705e348e1484c06001503628"), looks := false }, kinds := [], alts := [], laidByText := true, laidKinds := [.data], laidTests := true, laidLooks := .later }
def SpanExactUptoCardSaid : Prop := Claim7.holds Tryz.pinned (.plain (OpenSpec.upto spanExactSpec)) spanExactUptoCard

/-- THE SECOND FORM's CARD OF 'terracelaw3.SpanHolds'. -/
def spanHoldsUptoCard : Claim7 := { stood := { row := spanHoldsUptoRow, standIns := [], harness := (true, "bfeeb2142d7061c1d58cb4308f94107e077345aa705e348e1484c06001503628"), looks := false }, kinds := [], alts := [], laidByText := true, laidKinds := [.data], laidTests := true, laidLooks := .later }
def SpanHoldsUptoCardSaid : Prop := Claim7.holds Tryz.pinned (.plain (OpenSpec.upto spanHoldsSpec)) spanHoldsUptoCard

/-- THE SECOND FORM's CARD OF 'terracelaw3.SpanMeets'. -/
def spanMeetsUptoCard : Claim7 := { stood := { row := spanMeetsUptoRow, standIns := [], harness := (true, "bfeeb2142d7061c1d58cb4308f94107e077345aa705e348e1484c06001503628"), looks := false }, kinds := [], alts := [], laidByText := true, laidKinds := [.data], laidTests := true, laidLooks := .later }
def SpanMeetsUptoCardSaid : Prop := Claim7.holds Tryz.pinned (.plain (OpenSpec.upto spanMeetsSpec)) spanMeetsUptoCard
end Rows
end Go.Proofs.YthgnaceokcaieaaGreatDoor
