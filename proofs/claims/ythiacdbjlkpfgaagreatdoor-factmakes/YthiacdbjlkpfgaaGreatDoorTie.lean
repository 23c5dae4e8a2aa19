/-
  DERIVED. GIVEN WITH THE SEED: THE PROGRAM's TIES (one call each: nine closed facts by the kernel) AND EACH ROW's TIE, after the 31st guide's Derived/Test/Toyas{Tie, Card}.lean. No idea stands in it: it is a product of the set-up. Laid BY PROGRAM, IN A SANDBOX (cutbox-door.mjs). By AI agents, Wed Nov 11 2026. No macro, syntax, notation, axiom, sorry.
-/
import Derived.Test.YthiacdbjlkpfgaaGreatDoorRows
import Derived.LaidByTextLater
import Derived.SevenTiedAt
import Derived.LaidSub
import Derived.LaidOnce
namespace Go.Proofs.YthiacdbjlkpfgaaGreatDoor
open Go
set_option maxRecDepth 100000
theorem seatTie1 : Tryz.prog.laidByTextLater [("averment/parity.pairs", Rows.laid_averment_parity_pairs), ("averment/sign.pairs", Rows.laid_averment_sign_pairs)] [.data, .data] true :=
  Program.laidByTextLater_by_one 37 8 82 (by kernel_rfl) (by kernel_rfl) (by kernel_rfl) (by kernel_rfl) (by kernel_rfl) (by kernel_rfl) (fun _ _ => by kernel_rfl)
theorem noOwnUnsafe : Tryz.pinned.checked.prog.headLifts.contains "ownunsafe" = false := by kernel_rfl
theorem tie : Tryz.prog.laidByTextLater [("averment/parity.pairs", Rows.laid_averment_parity_pairs), ("averment/sign.pairs", Rows.laid_averment_sign_pairs)] [.data, .data] true :=
  Program.laidByTextLater.sub seatTie1 ["averment/parity.pairs", "averment/sign.pairs"] (by kernel_rfl) (by kernel_rfl)
theorem factMakes_row_tie : Rows.factMakesRow.laidByTextAt .later Tryz.pinned [.data, .data] true :=
  OpenClaim.laidByTextAt_later rfl rfl tie noOwnUnsafe
theorem factMakesUpto_row_tie : Rows.factMakesUptoRow.laidByTextAt .later Tryz.pinned [.data, .data] true :=
  OpenClaim.laidByTextAt_later rfl rfl tie noOwnUnsafe
end Go.Proofs.YthiacdbjlkpfgaaGreatDoor
