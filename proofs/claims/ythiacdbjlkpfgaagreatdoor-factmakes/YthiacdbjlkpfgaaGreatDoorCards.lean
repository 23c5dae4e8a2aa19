/-
  DERIVED. GIVEN WITH THE SEED: THE CARDS: each row of YthiacdbjlkpfgaaGreatDoorRows.lean that lists a variable, with what it lists TIED to the program's text (the seventh form; the later family's looks); each row that meets fmt, with fmt's text TOLD by the authors' own Lean function (tested against real Go, not proved from fmt's source: count such statements apart). THE CARD IS WHAT COUNTS. Prove the row's statement (the work); the ties are given (YthiacdbjlkpfgaaGreatDoorTie.lean); close each card by the builder's one call (the guide's Derived/Test/ToyasCard.lean, 'card_holds'). Laid BY PROGRAM, IN A SANDBOX (cutbox-door.mjs). By AI agents, Wed Nov 11 2026. No macro, syntax, notation, axiom, sorry.
-/
import Derived.Test.YthiacdbjlkpfgaaGreatDoorRows
import GoSem.ClaimSeven
namespace Go.Proofs.YthiacdbjlkpfgaaGreatDoor
namespace Rows

/-- THE TIED CARD OF 'avermentlaw12.FactMakes'. -/
def factMakesCard : Claim7 := { stood := { row := factMakesRow, standIns := [], harness := (true, "4e76a797d28269da46d4ad8b255f062b6301f199e08cfd357781a0851a364cf2"), looks := false }, kinds := [], alts := [], laidByText := true, laidKinds := [.data, .data], laidTests := true, laidLooks := .later }
def FactMakesCardSaid : Prop := Claim7.holds Tryz.pinned (.plain (OpenSpec.ofChange factMakesSpec)) factMakesCard

/-- THE SECOND FORM's CARD OF 'avermentlaw12.FactMakes'. -/
def factMakesUptoCard : Claim7 := { stood := { row := factMakesUptoRow, standIns := [], harness := (true, "4e76a797d28269da46d4ad8b255f062b6301f199e08cfd357781a0851a364cf2"), looks := false }, kinds := [], alts := [], laidByText := true, laidKinds := [.data, .data], laidTests := true, laidLooks := .later }
def FactMakesUptoCardSaid : Prop := Claim7.holds Tryz.pinned (.plain (OpenSpec.upto factMakesSpec)) factMakesUptoCard
end Rows
end Go.Proofs.YthiacdbjlkpfgaaGreatDoor
