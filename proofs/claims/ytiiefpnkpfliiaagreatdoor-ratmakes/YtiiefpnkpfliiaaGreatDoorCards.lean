/-
  DERIVED. GIVEN WITH THE SEED: THE CARDS: each row of YtiiefpnkpfliiaaGreatDoorRows.lean that lists a variable, with what it lists TIED to the program's text (the seventh form; the later family's looks); each row that meets fmt, with fmt's text TOLD by the authors' own Lean function (tested against real Go, not proved from fmt's source: count such statements apart). THE CARD IS WHAT COUNTS. Prove the row's statement (the work); the ties are given (YtiiefpnkpfliiaaGreatDoorTie.lean); close each card by the builder's one call (the guide's Derived/Test/ToyasCard.lean, 'card_holds'). Laid BY PROGRAM, IN A SANDBOX (cutbox-door.mjs). By AI agents, Wed Nov 11 2026. No macro, syntax, notation, axiom, sorry.
-/
import Derived.Test.YtiiefpnkpfliiaaGreatDoorRows
import GoSem.ClaimSeven
namespace Go.Proofs.YtiiefpnkpfliiaaGreatDoor
namespace Rows

/-- THE TIED CARD OF 'terracelaw2.RatAsks'. -/
def ratAsksCard : Claim7 := { stood := { row := ratAsksRow, standIns := [], harness := (true, "4b600ca23ca2f9983c7e8fe939ec18463ccdb5c3782c00b207f7acd9a7ba1365"), looks := false }, kinds := [], alts := [], laidByText := true, laidKinds := [.data, .data, .data], laidTests := true, laidLooks := .later }
def RatAsksCardSaid : Prop := Claim7.holds Tryz.pinned (.plain (OpenSpec.ofChange ratAsksSpec)) ratAsksCard

/-- THE TIED CARD OF 'terracelaw2.RatMakes'. -/
def ratMakesCard : Claim7 := { stood := { row := ratMakesRow, standIns := [], harness := (true, "4b600ca23ca2f9983c7e8fe939ec18463ccdb5c3782c00b207f7acd9a7ba1365"), looks := false }, kinds := [], alts := [], laidByText := true, laidKinds := [.data, .data, .data], laidTests := true, laidLooks := .later }
def RatMakesCardSaid : Prop := Claim7.holds Tryz.pinned (.plain (OpenSpec.ofChange ratMakesSpec)) ratMakesCard

/-- THE TIED CARD OF 'terracelaw2.RatSimple'. -/
def ratSimpleCard : Claim7 := { stood := { row := ratSimpleRow, standIns := [], harness := (true, "4b600ca23ca2f9983c7e8fe939ec18463ccdb5c3782c00b207f7acd9a7ba1365"), looks := false }, kinds := [], alts := [], laidByText := true, laidKinds := [.data, .data, .data], laidTests := true, laidLooks := .later }
def RatSimpleCardSaid : Prop := Claim7.holds Tryz.pinned (.plain (OpenSpec.ofChange ratSimpleSpec)) ratSimpleCard

/-- THE SECOND FORM's CARD OF 'terracelaw2.RatAsks'. -/
def ratAsksUptoCard : Claim7 := { stood := { row := ratAsksUptoRow, standIns := [], harness := (true, "4b600ca23ca2f9983c7e8fe939ec18463ccdb5c3782c00b207f7acd9a7ba1365"), looks := false }, kinds := [], alts := [], laidByText := true, laidKinds := [.data, .data, .data], laidTests := true, laidLooks := .later }
def RatAsksUptoCardSaid : Prop := Claim7.holds Tryz.pinned (.plain (OpenSpec.upto ratAsksSpec)) ratAsksUptoCard

/-- THE SECOND FORM's CARD OF 'terracelaw2.RatMakes'. -/
def ratMakesUptoCard : Claim7 := { stood := { row := ratMakesUptoRow, standIns := [], harness := (true, "4b600ca23ca2f9983c7e8fe939ec18463ccdb5c3782c00b207f7acd9a7ba1365"), looks := false }, kinds := [], alts := [], laidByText := true, laidKinds := [.data, .data, .data], laidTests := true, laidLooks := .later }
def RatMakesUptoCardSaid : Prop := Claim7.holds Tryz.pinned (.plain (OpenSpec.upto ratMakesSpec)) ratMakesUptoCard

/-- THE SECOND FORM's CARD OF 'terracelaw2.RatSimple'. -/
def ratSimpleUptoCard : Claim7 := { stood := { row := ratSimpleUptoRow, standIns := [], harness := (true, "4b600ca23ca2f9983c7e8fe939ec18463ccdb5c3782c00b207f7acd9a7ba1365"), looks := false }, kinds := [], alts := [], laidByText := true, laidKinds := [.data, .data, .data], laidTests := true, laidLooks := .later }
def RatSimpleUptoCardSaid : Prop := Claim7.holds Tryz.pinned (.plain (OpenSpec.upto ratSimpleSpec)) ratSimpleUptoCard
end Rows
end Go.Proofs.YtiiefpnkpfliiaaGreatDoor
