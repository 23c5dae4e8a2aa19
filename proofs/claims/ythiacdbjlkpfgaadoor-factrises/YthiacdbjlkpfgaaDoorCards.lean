/-
  DERIVED. GIVEN WITH THE SEED: THE CARDS: each row of YthiacdbjlkpfgaaDoorRows.lean that lists a variable, with what it lists TIED to the program's text (the seventh form; the later family's looks); each row that meets fmt, with fmt's text TOLD by the authors' own Lean function (tested against real Go, not proved from fmt's source: count such statements apart). THE CARD IS WHAT COUNTS. Prove the row's statement (the work); the ties are given (YthiacdbjlkpfgaaDoorTie.lean); close each card by the builder's one call (the guide's Derived/Test/ToyasCard.lean, 'card_holds'). Laid BY PROGRAM, IN A SANDBOX (cutbox-door.mjs). By AI agents, Wed Nov 11 2026. No macro, syntax, notation, axiom, sorry.
-/
import Derived.Test.YthiacdbjlkpfgaaDoorRows
import GoSem.ClaimSeven
namespace Go.Proofs.YthiacdbjlkpfgaaDoor
namespace Rows

/-- THE TIED CARD OF 'avermentlaw12.FactSound'. -/
def factSoundCard : Claim7 := { stood := { row := factSoundRow, standIns := [], harness := (true, "7d96c62d3587d6361602524fdb1455ab60f8747c34ac81a1a3d313478af6fa7a"), looks := false }, kinds := [], alts := [], laidByText := true, laidKinds := [.data, .data], laidTests := true, laidLooks := .later }
def FactSoundCardSaid : Prop := Claim7.holds Tryd.pinned (.plain (OpenSpec.ofChange factSoundSpec)) factSoundCard

/-- THE TIED CARD OF 'avermentlaw12.FactRises'. -/
def factRisesCard : Claim7 := { stood := { row := factRisesRow, standIns := [], harness := (true, "7d96c62d3587d6361602524fdb1455ab60f8747c34ac81a1a3d313478af6fa7a"), looks := false }, kinds := [], alts := [], laidByText := true, laidKinds := [.data, .data], laidTests := true, laidLooks := .later }
def FactRisesCardSaid : Prop := Claim7.holds Tryd.pinned (.plain (OpenSpec.ofChange factRisesSpec)) factRisesCard

/-- THE SECOND FORM's CARD OF 'avermentlaw12.FactSound'. -/
def factSoundUptoCard : Claim7 := { stood := { row := factSoundUptoRow, standIns := [], harness := (true, "7d96c62d3587d6361602524fdb1455ab60f8747c34ac81a1a3d313478af6fa7a"), looks := false }, kinds := [], alts := [], laidByText := true, laidKinds := [.data, .data], laidTests := true, laidLooks := .later }
def FactSoundUptoCardSaid : Prop := Claim7.holds Tryd.pinned (.plain (OpenSpec.upto factSoundSpec)) factSoundUptoCard

/-- THE SECOND FORM's CARD OF 'avermentlaw12.FactRises'. -/
def factRisesUptoCard : Claim7 := { stood := { row := factRisesUptoRow, standIns := [], harness := (true, "7d96c62d3587d6361602524fdb1455ab60f8747c34ac81a1a3d313478af6fa7a"), looks := false }, kinds := [], alts := [], laidByText := true, laidKinds := [.data, .data], laidTests := true, laidLooks := .later }
def FactRisesUptoCardSaid : Prop := Claim7.holds Tryd.pinned (.plain (OpenSpec.upto factRisesSpec)) factRisesUptoCard
end Rows
end Go.Proofs.YthiacdbjlkpfgaaDoor
