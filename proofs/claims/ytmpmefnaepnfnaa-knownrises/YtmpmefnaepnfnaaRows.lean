/-
  No cell of these rows narrows 'for every input' (looked for: loops, veiled, ifaces, maps, wideKeys, modest, calm, conditions, laid).
  DERIVED. THE GIVEN ROWS OF THIS SEAT. 4 by the template 'for every input the law returns true; each argument reads behind the call as it read before'; 0 by the template 'total and deterministic' (their statements: YtmpmefnaepnfnaaTotals.lean).
  GIVEN WITH THE SEED: the statements are not yours to turn. If you find one false, say at which input.
  Laid BY PROGRAM, IN A SANDBOX (cutbox-rows.mjs): the forced cells as the released guide's own fill.sh prints them over the translation f0579a7fe2c864b3… (all of the seat's roots in one cut). By AI agents, Wed Nov 11 2026. No macro, syntax, notation, axiom, sorry.
-/
import Derived.Test.YtmpmefnaepnfnaaChecked
import GoSem.Claim
import GoSem.ClaimJoined
import GoSem.ClaimMapViews
import Derived.JoinedTies
import Derived.KernelRfl
namespace Go.Proofs.Ytmpmefnaepnfnaa
/- THE CELL 'sum', in the pinned program and in every row, IS THE sha256 OF THE DUMP (.gsa) THAT YtmpmefnaepnfnaaProg.lean LOADS. Nothing in Lean hashes anything: it is a label: what it is worth is what the hold of that sum in a sandbox is worth. -/
noncomputable def Try.pinned : Pinned := { name := "ytmpmefnaepnfnaa", sum := "f0579a7fe2c864b30f41203abf150ed683617a2f787fd42fcbd4f710a840e0df", checked := Try.checked }
namespace Rows
def none {H : Type} : Left H := { results := [], args := [] }

/-- 'avermentlaw09.KnownSets': WHATEVER THE INPUT: true; the input reads as it did. -/
def knownSetsSpec : ChangeSpec := { name := "knownSets", fn := fun _ => fun
  | [d1, d2, d3] => { results := [.lit (.bool true)], args := [d1, d2, d3] }
  | _ => none }
def knownSetsRow : OpenClaim := { program := "ytmpmefnaepnfnaa", sum := "f0579a7fe2c864b30f41203abf150ed683617a2f787fd42fcbd4f710a840e0df", func := "averment/avermentlaw09.KnownSets", spec := "knownSets", apart := false }
def KnownSetsSaid : Prop := knownSetsRow.holds Try.pinned (OpenSpec.ofChange knownSetsSpec)

/-- ITS FALSE NEIGHBOUR: 'it returns false'. Refute it at one input. -/
def knownSetsWrong : ChangeSpec := { name := "knownSets", fn := fun _ => fun
  | [d1, d2, d3] => { results := [.lit (.bool false)], args := [d1, d2, d3] }
  | _ => none }
def KnownSetsWrongFalsely : Prop := knownSetsRow.holds Try.pinned (OpenSpec.ofChange knownSetsWrong)

/-- 'avermentlaw09.KnownMakes': WHATEVER THE INPUT: true; the input reads as it did. -/
def knownMakesSpec : ChangeSpec := { name := "knownMakes", fn := fun _ => fun
  | [d1, d2, d3] => { results := [.lit (.bool true)], args := [d1, d2, d3] }
  | _ => none }
def knownMakesRow : OpenClaim := { program := "ytmpmefnaepnfnaa", sum := "f0579a7fe2c864b30f41203abf150ed683617a2f787fd42fcbd4f710a840e0df", func := "averment/avermentlaw09.KnownMakes", spec := "knownMakes", apart := false }
def KnownMakesSaid : Prop := knownMakesRow.holds Try.pinned (OpenSpec.ofChange knownMakesSpec)

/-- ITS FALSE NEIGHBOUR: 'it returns false'. Refute it at one input. -/
def knownMakesWrong : ChangeSpec := { name := "knownMakes", fn := fun _ => fun
  | [d1, d2, d3] => { results := [.lit (.bool false)], args := [d1, d2, d3] }
  | _ => none }
def KnownMakesWrongFalsely : Prop := knownMakesRow.holds Try.pinned (OpenSpec.ofChange knownMakesWrong)

/-- 'avermentlaw09.KnownSound': WHATEVER THE INPUT: true; the input reads as it did. -/
def knownSoundSpec : ChangeSpec := { name := "knownSound", fn := fun _ => fun
  | [d1, d2, d3] => { results := [.lit (.bool true)], args := [d1, d2, d3] }
  | _ => none }
def knownSoundRow : OpenClaim := { program := "ytmpmefnaepnfnaa", sum := "f0579a7fe2c864b30f41203abf150ed683617a2f787fd42fcbd4f710a840e0df", func := "averment/avermentlaw09.KnownSound", spec := "knownSound", apart := false }
def KnownSoundSaid : Prop := knownSoundRow.holds Try.pinned (OpenSpec.ofChange knownSoundSpec)

/-- ITS FALSE NEIGHBOUR: 'it returns false'. Refute it at one input. -/
def knownSoundWrong : ChangeSpec := { name := "knownSound", fn := fun _ => fun
  | [d1, d2, d3] => { results := [.lit (.bool false)], args := [d1, d2, d3] }
  | _ => none }
def KnownSoundWrongFalsely : Prop := knownSoundRow.holds Try.pinned (OpenSpec.ofChange knownSoundWrong)

/-- 'avermentlaw09.KnownRises': WHATEVER THE INPUT: true; the input reads as it did. -/
def knownRisesSpec : ChangeSpec := { name := "knownRises", fn := fun _ => fun
  | [d1, d2, d3] => { results := [.lit (.bool true)], args := [d1, d2, d3] }
  | _ => none }
def knownRisesRow : OpenClaim := { program := "ytmpmefnaepnfnaa", sum := "f0579a7fe2c864b30f41203abf150ed683617a2f787fd42fcbd4f710a840e0df", func := "averment/avermentlaw09.KnownRises", spec := "knownRises", apart := false }
def KnownRisesSaid : Prop := knownRisesRow.holds Try.pinned (OpenSpec.ofChange knownRisesSpec)

/-- ITS FALSE NEIGHBOUR: 'it returns false'. Refute it at one input. -/
def knownRisesWrong : ChangeSpec := { name := "knownRises", fn := fun _ => fun
  | [d1, d2, d3] => { results := [.lit (.bool false)], args := [d1, d2, d3] }
  | _ => none }
def KnownRisesWrongFalsely : Prop := knownRisesRow.holds Try.pinned (OpenSpec.ofChange knownRisesWrong)

/- THE SECOND FORM. 'bulk': how many values and letters a reading holds, each counted each time it is reached (what is shared counts as often as it is met; a slice's spare places count too). A statement '..UptoSaid' is the law's where the arguments, and the package variables that the reading takes, are together of bulk at most 1048576: NARROWER than '..Said'. Prove '..Said' where nothing that the law and all that it calls make is longer than what came in: it says more and counts as full. Else prove '..UptoSaid'. A law counts once. -/
mutual
def uptoBulk {H : Type} : DataW H → Nat
  | .lit (.string bytes) => bytes.length + 1
  | .lit _ => 1
  | .nil => 1
  | .ptr d => uptoBulk d + 1
  | .slice elems spare => uptoBulkAll elems + uptoBulkAll spare + 1
  | .agg parts => uptoBulkAll parts + 1
  | .iface _ d => uptoBulk d + 1
  | .map entries => uptoBulkEntries entries + 1
  | .held _ => 1
def uptoBulkAll {H : Type} : List (DataW H) → Nat
  | [] => 0
  | d :: r => uptoBulk d + uptoBulkAll r
def uptoBulkEntries {H : Type} : List (Lit × DataW H) → Nat
  | [] => 0
  | x :: r => uptoBulkEntry x + uptoBulkEntries r
def uptoBulkEntry {H : Type} : Lit × DataW H → Nat
  | (.string bytes, d) => bytes.length + uptoBulk d + 1
  | (_, d) => uptoBulk d + 1
 end
def uptoSmall : (H : Type) → List (DataW H) → Bool := fun _ ds => decide (uptoBulkAll ds ≤ 1048576)
def OpenSpec.upto (s : _root_.Go.ChangeSpec) : _root_.Go.OpenSpec := { _root_.Go.OpenSpec.ofChange s with cond := some uptoSmall }

/-- 'avermentlaw09.KnownSets', WHERE WHAT IT READS IS OF BULK AT MOST 1048576: true; the input reads as it did. -/
def knownSetsUptoRow : OpenClaim := { program := "ytmpmefnaepnfnaa", sum := "f0579a7fe2c864b30f41203abf150ed683617a2f787fd42fcbd4f710a840e0df", func := "averment/avermentlaw09.KnownSets", spec := "knownSets", apart := false, narrowed := true }
def KnownSetsUptoSaid : Prop := knownSetsUptoRow.holds Try.pinned (OpenSpec.upto knownSetsSpec)

/-- 'avermentlaw09.KnownMakes', WHERE WHAT IT READS IS OF BULK AT MOST 1048576: true; the input reads as it did. -/
def knownMakesUptoRow : OpenClaim := { program := "ytmpmefnaepnfnaa", sum := "f0579a7fe2c864b30f41203abf150ed683617a2f787fd42fcbd4f710a840e0df", func := "averment/avermentlaw09.KnownMakes", spec := "knownMakes", apart := false, narrowed := true }
def KnownMakesUptoSaid : Prop := knownMakesUptoRow.holds Try.pinned (OpenSpec.upto knownMakesSpec)

/-- 'avermentlaw09.KnownSound', WHERE WHAT IT READS IS OF BULK AT MOST 1048576: true; the input reads as it did. -/
def knownSoundUptoRow : OpenClaim := { program := "ytmpmefnaepnfnaa", sum := "f0579a7fe2c864b30f41203abf150ed683617a2f787fd42fcbd4f710a840e0df", func := "averment/avermentlaw09.KnownSound", spec := "knownSound", apart := false, narrowed := true }
def KnownSoundUptoSaid : Prop := knownSoundUptoRow.holds Try.pinned (OpenSpec.upto knownSoundSpec)

/-- 'avermentlaw09.KnownRises', WHERE WHAT IT READS IS OF BULK AT MOST 1048576: true; the input reads as it did. -/
def knownRisesUptoRow : OpenClaim := { program := "ytmpmefnaepnfnaa", sum := "f0579a7fe2c864b30f41203abf150ed683617a2f787fd42fcbd4f710a840e0df", func := "averment/avermentlaw09.KnownRises", spec := "knownRises", apart := false, narrowed := true }
def KnownRisesUptoSaid : Prop := knownRisesUptoRow.holds Try.pinned (OpenSpec.upto knownRisesSpec)

end Rows
end Go.Proofs.Ytmpmefnaepnfnaa
