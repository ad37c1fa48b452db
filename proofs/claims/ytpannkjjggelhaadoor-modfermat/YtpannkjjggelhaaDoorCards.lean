/-
  DERIVED. GIVEN WITH THE SEED: THE CARDS: each row of YtpannkjjggelhaaDoorRows.lean that lists a variable, with what it lists TIED to the program's text (the seventh form; the later family's looks); each row that meets fmt, with fmt's text TOLD by the authors' own Lean function (tested against real Go, not proved from fmt's source: count such statements apart). THE CARD IS WHAT COUNTS. Prove the row's statement (the work); the ties are given (YtpannkjjggelhaaDoorTie.lean); close each card by the builder's one call (the guide's Derived/Test/ToyasCard.lean, 'card_holds'). Laid BY PROGRAM, IN A SANDBOX (cutbox-door.mjs). By AI agents, Wed Nov 11 2026. No macro, syntax, notation, axiom, sorry.
-/
import Derived.Test.YtpannkjjggelhaaDoorRows
import GoSem.ClaimSeven
namespace Go.Proofs.YtpannkjjggelhaaDoor
namespace Rows

/-- THE TIED CARD OF 'terracelaw11.ModLaws'. -/
def modLawsCard : Claim7 := { stood := { row := modLawsRow, standIns := [], harness := (true, "ee4bd08dc618c2b361f5c70545b207eeaf806398d5732082d81a24fd05ce9498"), looks := false }, kinds := [], alts := [], laidByText := true, laidKinds := [.data], laidTests := true, laidLooks := .later }
def ModLawsCardSaid : Prop := Claim7.holds Tryd.pinned (.plain (OpenSpec.ofChange modLawsSpec)) modLawsCard

/-- THE TIED CARD OF 'terracelaw11.ModFermat'. -/
def modFermatCard : Claim7 := { stood := { row := modFermatRow, standIns := [], harness := (true, "ee4bd08dc618c2b361f5c70545b207eeaf806398d5732082d81a24fd05ce9498"), looks := false }, kinds := [], alts := [], laidByText := true, laidKinds := [.data], laidTests := true, laidLooks := .later }
def ModFermatCardSaid : Prop := Claim7.holds Tryd.pinned (.plain (OpenSpec.ofChange modFermatSpec)) modFermatCard

/-- THE TIED CARD OF 'terracelaw11.ModPowers'. -/
def modPowersCard : Claim7 := { stood := { row := modPowersRow, standIns := [], harness := (true, "ee4bd08dc618c2b361f5c70545b207eeaf806398d5732082d81a24fd05ce9498"), looks := false }, kinds := [], alts := [], laidByText := true, laidKinds := [.data], laidTests := true, laidLooks := .later }
def ModPowersCardSaid : Prop := Claim7.holds Tryd.pinned (.plain (OpenSpec.ofChange modPowersSpec)) modPowersCard

/-- THE SECOND FORM's CARD OF 'terracelaw11.ModLaws'. -/
def modLawsUptoCard : Claim7 := { stood := { row := modLawsUptoRow, standIns := [], harness := (true, "ee4bd08dc618c2b361f5c70545b207eeaf806398d5732082d81a24fd05ce9498"), looks := false }, kinds := [], alts := [], laidByText := true, laidKinds := [.data], laidTests := true, laidLooks := .later }
def ModLawsUptoCardSaid : Prop := Claim7.holds Tryd.pinned (.plain (OpenSpec.upto modLawsSpec)) modLawsUptoCard

/-- THE SECOND FORM's CARD OF 'terracelaw11.ModFermat'. -/
def modFermatUptoCard : Claim7 := { stood := { row := modFermatUptoRow, standIns := [], harness := (true, "ee4bd08dc618c2b361f5c70545b207eeaf806398d5732082d81a24fd05ce9498"), looks := false }, kinds := [], alts := [], laidByText := true, laidKinds := [.data], laidTests := true, laidLooks := .later }
def ModFermatUptoCardSaid : Prop := Claim7.holds Tryd.pinned (.plain (OpenSpec.upto modFermatSpec)) modFermatUptoCard

/-- THE SECOND FORM's CARD OF 'terracelaw11.ModPowers'. -/
def modPowersUptoCard : Claim7 := { stood := { row := modPowersUptoRow, standIns := [], harness := (true, "ee4bd08dc618c2b361f5c70545b207eeaf806398d5732082d81a24fd05ce9498"), looks := false }, kinds := [], alts := [], laidByText := true, laidKinds := [.data], laidTests := true, laidLooks := .later }
def ModPowersUptoCardSaid : Prop := Claim7.holds Tryd.pinned (.plain (OpenSpec.upto modPowersSpec)) modPowersUptoCard
end Rows
end Go.Proofs.YtpannkjjggelhaaDoor
