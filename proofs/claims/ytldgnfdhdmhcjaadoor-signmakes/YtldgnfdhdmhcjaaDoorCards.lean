/-
  DERIVED. GIVEN WITH THE SEED: THE CARDS: each row of YtldgnfdhdmhcjaaDoorRows.lean that lists a variable, with what it lists TIED to the program's text (the seventh form; the later family's looks); each row that meets fmt, with fmt's text TOLD by the authors' own Lean function (tested against real Go, not proved from fmt's source: count such statements apart). THE CARD IS WHAT COUNTS. Prove the row's statement (the work); the ties are given (YtldgnfdhdmhcjaaDoorTie.lean); close each card by the builder's one call (the guide's Derived/Test/ToyasCard.lean, 'card_holds'). Laid BY PROGRAM, IN A SANDBOX (cutbox-door.mjs). By AI agents, Wed Nov 11 2026. No macro, syntax, notation, axiom, sorry.
-/
import Derived.Test.YtldgnfdhdmhcjaaDoorRows
import GoSem.ClaimSeven
namespace Go.Proofs.YtldgnfdhdmhcjaaDoor
namespace Rows

/-- THE TIED CARD OF 'avermentlaw08.SignSets'. -/
def signSetsCard : Claim7 := { stood := { row := signSetsRow, standIns := [], harness := (true, "e71eeadabf55ec82735abc84430c142473622d2d668b06ed4cb7db33d707df20"), looks := false }, kinds := [], alts := [], laidByText := true, laidKinds := [.data], laidTests := true, laidLooks := .later }
def SignSetsCardSaid : Prop := Claim7.holds Tryd.pinned (.plain (OpenSpec.ofChange signSetsSpec)) signSetsCard

/-- THE TIED CARD OF 'avermentlaw08.SignMakes'. -/
def signMakesCard : Claim7 := { stood := { row := signMakesRow, standIns := [], harness := (true, "e71eeadabf55ec82735abc84430c142473622d2d668b06ed4cb7db33d707df20"), looks := false }, kinds := [], alts := [], laidByText := true, laidKinds := [.data], laidTests := true, laidLooks := .later }
def SignMakesCardSaid : Prop := Claim7.holds Tryd.pinned (.plain (OpenSpec.ofChange signMakesSpec)) signMakesCard

/-- THE TIED CARD OF 'avermentlaw08.SignSound'. -/
def signSoundCard : Claim7 := { stood := { row := signSoundRow, standIns := [], harness := (true, "e71eeadabf55ec82735abc84430c142473622d2d668b06ed4cb7db33d707df20"), looks := false }, kinds := [], alts := [], laidByText := true, laidKinds := [.data], laidTests := true, laidLooks := .later }
def SignSoundCardSaid : Prop := Claim7.holds Tryd.pinned (.plain (OpenSpec.ofChange signSoundSpec)) signSoundCard

/-- THE TIED CARD OF 'avermentlaw08.SignTight'. -/
def signTightCard : Claim7 := { stood := { row := signTightRow, standIns := [], harness := (true, "e71eeadabf55ec82735abc84430c142473622d2d668b06ed4cb7db33d707df20"), looks := false }, kinds := [], alts := [], laidByText := true, laidKinds := [.data], laidTests := true, laidLooks := .later }
def SignTightCardSaid : Prop := Claim7.holds Tryd.pinned (.plain (OpenSpec.ofChange signTightSpec)) signTightCard

/-- THE TIED CARD OF 'avermentlaw08.SignRises'. -/
def signRisesCard : Claim7 := { stood := { row := signRisesRow, standIns := [], harness := (true, "e71eeadabf55ec82735abc84430c142473622d2d668b06ed4cb7db33d707df20"), looks := false }, kinds := [], alts := [], laidByText := true, laidKinds := [.data], laidTests := true, laidLooks := .later }
def SignRisesCardSaid : Prop := Claim7.holds Tryd.pinned (.plain (OpenSpec.ofChange signRisesSpec)) signRisesCard

/-- THE TIED CARD OF 'avermentlaw11.ParitySets'. -/
def paritySetsCard : Claim7 := { stood := { row := paritySetsRow, standIns := [], harness := (true, "e71eeadabf55ec82735abc84430c142473622d2d668b06ed4cb7db33d707df20"), looks := false }, kinds := [], alts := [], laidByText := true, laidKinds := [.data], laidTests := true, laidLooks := .later }
def ParitySetsCardSaid : Prop := Claim7.holds Tryd.pinned (.plain (OpenSpec.ofChange paritySetsSpec)) paritySetsCard

/-- THE TIED CARD OF 'avermentlaw11.ParityMakes'. -/
def parityMakesCard : Claim7 := { stood := { row := parityMakesRow, standIns := [], harness := (true, "e71eeadabf55ec82735abc84430c142473622d2d668b06ed4cb7db33d707df20"), looks := false }, kinds := [], alts := [], laidByText := true, laidKinds := [.data], laidTests := true, laidLooks := .later }
def ParityMakesCardSaid : Prop := Claim7.holds Tryd.pinned (.plain (OpenSpec.ofChange parityMakesSpec)) parityMakesCard

/-- THE TIED CARD OF 'avermentlaw11.ParitySound'. -/
def paritySoundCard : Claim7 := { stood := { row := paritySoundRow, standIns := [], harness := (true, "e71eeadabf55ec82735abc84430c142473622d2d668b06ed4cb7db33d707df20"), looks := false }, kinds := [], alts := [], laidByText := true, laidKinds := [.data], laidTests := true, laidLooks := .later }
def ParitySoundCardSaid : Prop := Claim7.holds Tryd.pinned (.plain (OpenSpec.ofChange paritySoundSpec)) paritySoundCard

/-- THE TIED CARD OF 'avermentlaw11.ParityTight'. -/
def parityTightCard : Claim7 := { stood := { row := parityTightRow, standIns := [], harness := (true, "e71eeadabf55ec82735abc84430c142473622d2d668b06ed4cb7db33d707df20"), looks := false }, kinds := [], alts := [], laidByText := true, laidKinds := [.data], laidTests := true, laidLooks := .later }
def ParityTightCardSaid : Prop := Claim7.holds Tryd.pinned (.plain (OpenSpec.ofChange parityTightSpec)) parityTightCard

/-- THE TIED CARD OF 'avermentlaw11.ParityRises'. -/
def parityRisesCard : Claim7 := { stood := { row := parityRisesRow, standIns := [], harness := (true, "e71eeadabf55ec82735abc84430c142473622d2d668b06ed4cb7db33d707df20"), looks := false }, kinds := [], alts := [], laidByText := true, laidKinds := [.data], laidTests := true, laidLooks := .later }
def ParityRisesCardSaid : Prop := Claim7.holds Tryd.pinned (.plain (OpenSpec.ofChange parityRisesSpec)) parityRisesCard

/-- THE SECOND FORM's CARD OF 'avermentlaw08.SignSets'. -/
def signSetsUptoCard : Claim7 := { stood := { row := signSetsUptoRow, standIns := [], harness := (true, "e71eeadabf55ec82735abc84430c142473622d2d668b06ed4cb7db33d707df20"), looks := false }, kinds := [], alts := [], laidByText := true, laidKinds := [.data], laidTests := true, laidLooks := .later }
def SignSetsUptoCardSaid : Prop := Claim7.holds Tryd.pinned (.plain (OpenSpec.upto signSetsSpec)) signSetsUptoCard

/-- THE SECOND FORM's CARD OF 'avermentlaw08.SignMakes'. -/
def signMakesUptoCard : Claim7 := { stood := { row := signMakesUptoRow, standIns := [], harness := (true, "e71eeadabf55ec82735abc84430c142473622d2d668b06ed4cb7db33d707df20"), looks := false }, kinds := [], alts := [], laidByText := true, laidKinds := [.data], laidTests := true, laidLooks := .later }
def SignMakesUptoCardSaid : Prop := Claim7.holds Tryd.pinned (.plain (OpenSpec.upto signMakesSpec)) signMakesUptoCard

/-- THE SECOND FORM's CARD OF 'avermentlaw08.SignSound'. -/
def signSoundUptoCard : Claim7 := { stood := { row := signSoundUptoRow, standIns := [], harness := (true, "e71eeadabf55ec82735abc84430c142473622d2d668b06ed4cb7db33d707df20"), looks := false }, kinds := [], alts := [], laidByText := true, laidKinds := [.data], laidTests := true, laidLooks := .later }
def SignSoundUptoCardSaid : Prop := Claim7.holds Tryd.pinned (.plain (OpenSpec.upto signSoundSpec)) signSoundUptoCard

/-- THE SECOND FORM's CARD OF 'avermentlaw08.SignTight'. -/
def signTightUptoCard : Claim7 := { stood := { row := signTightUptoRow, standIns := [], harness := (true, "e71eeadabf55ec82735abc84430c142473622d2d668b06ed4cb7db33d707df20"), looks := false }, kinds := [], alts := [], laidByText := true, laidKinds := [.data], laidTests := true, laidLooks := .later }
def SignTightUptoCardSaid : Prop := Claim7.holds Tryd.pinned (.plain (OpenSpec.upto signTightSpec)) signTightUptoCard

/-- THE SECOND FORM's CARD OF 'avermentlaw08.SignRises'. -/
def signRisesUptoCard : Claim7 := { stood := { row := signRisesUptoRow, standIns := [], harness := (true, "e71eeadabf55ec82735abc84430c142473622d2d668b06ed4cb7db33d707df20"), looks := false }, kinds := [], alts := [], laidByText := true, laidKinds := [.data], laidTests := true, laidLooks := .later }
def SignRisesUptoCardSaid : Prop := Claim7.holds Tryd.pinned (.plain (OpenSpec.upto signRisesSpec)) signRisesUptoCard

/-- THE SECOND FORM's CARD OF 'avermentlaw11.ParitySets'. -/
def paritySetsUptoCard : Claim7 := { stood := { row := paritySetsUptoRow, standIns := [], harness := (true, "e71eeadabf55ec82735abc84430c142473622d2d668b06ed4cb7db33d707df20"), looks := false }, kinds := [], alts := [], laidByText := true, laidKinds := [.data], laidTests := true, laidLooks := .later }
def ParitySetsUptoCardSaid : Prop := Claim7.holds Tryd.pinned (.plain (OpenSpec.upto paritySetsSpec)) paritySetsUptoCard

/-- THE SECOND FORM's CARD OF 'avermentlaw11.ParityMakes'. -/
def parityMakesUptoCard : Claim7 := { stood := { row := parityMakesUptoRow, standIns := [], harness := (true, "e71eeadabf55ec82735abc84430c142473622d2d668b06ed4cb7db33d707df20"), looks := false }, kinds := [], alts := [], laidByText := true, laidKinds := [.data], laidTests := true, laidLooks := .later }
def ParityMakesUptoCardSaid : Prop := Claim7.holds Tryd.pinned (.plain (OpenSpec.upto parityMakesSpec)) parityMakesUptoCard

/-- THE SECOND FORM's CARD OF 'avermentlaw11.ParitySound'. -/
def paritySoundUptoCard : Claim7 := { stood := { row := paritySoundUptoRow, standIns := [], harness := (true, "e71eeadabf55ec82735abc84430c142473622d2d668b06ed4cb7db33d707df20"), looks := false }, kinds := [], alts := [], laidByText := true, laidKinds := [.data], laidTests := true, laidLooks := .later }
def ParitySoundUptoCardSaid : Prop := Claim7.holds Tryd.pinned (.plain (OpenSpec.upto paritySoundSpec)) paritySoundUptoCard

/-- THE SECOND FORM's CARD OF 'avermentlaw11.ParityTight'. -/
def parityTightUptoCard : Claim7 := { stood := { row := parityTightUptoRow, standIns := [], harness := (true, "e71eeadabf55ec82735abc84430c142473622d2d668b06ed4cb7db33d707df20"), looks := false }, kinds := [], alts := [], laidByText := true, laidKinds := [.data], laidTests := true, laidLooks := .later }
def ParityTightUptoCardSaid : Prop := Claim7.holds Tryd.pinned (.plain (OpenSpec.upto parityTightSpec)) parityTightUptoCard

/-- THE SECOND FORM's CARD OF 'avermentlaw11.ParityRises'. -/
def parityRisesUptoCard : Claim7 := { stood := { row := parityRisesUptoRow, standIns := [], harness := (true, "e71eeadabf55ec82735abc84430c142473622d2d668b06ed4cb7db33d707df20"), looks := false }, kinds := [], alts := [], laidByText := true, laidKinds := [.data], laidTests := true, laidLooks := .later }
def ParityRisesUptoCardSaid : Prop := Claim7.holds Tryd.pinned (.plain (OpenSpec.upto parityRisesSpec)) parityRisesUptoCard
end Rows
end Go.Proofs.YtldgnfdhdmhcjaaDoor
