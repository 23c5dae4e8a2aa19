import Derived.Test.YtldgnfdhdmhcjaaDoorRows
import Derived.Test.YtldgnfdhdmhcjaaDoorTie
import Derived.Test.YtldgnfdhdmhcjaaDoorCards
import Derived.Test.YtldgnfdhdmhcjaaDoorSW1
import Derived.WalkKit
import Derived.ProofKit
import Derived.OpenShut
import Derived.ShutString
import Derived.ChangeOld
import Derived.Below
import Derived.LaidMore
import Derived.LaidHandle
import Derived.Lib.LaidTab
import Derived.SevenTiedAt
namespace Go.Proofs.YtldgnfdhdmhcjaaDoor
open Go.ChangeShapes Go.WideShapes Go.ChangeAt Go.RowKit Go.Lib

theorem own : ownKnob Tryd.prog.godebug = none := by kernel_rfl
theorem laidOut : laidOutB Tryd.prog = true := by kernel_rfl

/-- an array of arrays of integers that reads as a table of tables holds their numbers, cell for cell -/
theorem tab2_cell {H : Type} {enc : TypeId × Value → H} {P : Program} {w : World} {base : Nat} {sp : Nat → Bool} {held : Bool} {fuel : Nat} {t e q : TypeId} {n m : Nat} {k : IntKind} {cs : List Value} {zss : List (List Int)} {p : List MemPlace}
    (ht : P.underlying t = some (.array n e)) (he : P.underlying e = some (.array m q)) (hq : P.underlying q = some (.int k)) (hcq : P.cellsOf q = 1) (hce : P.cellsOf e = m) (hct : P.cellsOf t = n * m)
    (h : DataW.trod enc P w base sp held fuel t cs = some (.agg (zss.map (tabData k)), p)) (i : Nat) (hi : i < n) : ∃ zs, zss[i]? = some zs ∧ (cs.drop (i * m)).take m = zs.map fun z => Value.int k z := by
  cases fuel with
  | zero => simp [DataW.trod] at h
  | succ fuel =>
    simp only [DataW.trod, ht, hce, hct] at h
    split at h
    · rename_i hl
      obtain ⟨xs, hm, hx⟩ := Option.map_eq_some_iff.1 h
      have hxs : xs.map (·.1) = zss.map (tabData (H := H) k) := by
        have := congrArg Prod.fst hx
        simpa using this
      obtain ⟨b, hb, hf⟩ := mapM_at hm i i (by simp [hi])
      have h2 : (xs.map (·.1))[i]? = some b.1 := by simp [hb]
      rw [hxs] at h2
      simp only [List.getElem?_map, Option.map_eq_some_iff] at h2
      obtain ⟨zs, hz, hbz⟩ := h2
      refine ⟨zs, hz, ?_⟩
      obtain ⟨b1, b2⟩ := b
      simp only at hbz
      subst hbz
      exact cells_of_tab he hq hcq hce hf
    · cases h

def laidS : List (String × DataW Unit) := [("averment/sign.pairs", Rows.laid_averment_sign_pairs)]
def laidP : List (String × DataW Unit) := [("averment/parity.pairs", Rows.laid_averment_parity_pairs)]
def stab2 : List (List Int) := [[7, 1, 7, 1, 2, 4, 7, 4, 5], [7, 1, 5, 5, 2, 1, 5, 4, 7], [7, 2, 7, 2, 2, 2, 7, 2, 7], [7, 0, 3, 2, 0, 2, 3, 0, 6], [3, 0, 3, 2, 0, 2, 6, 0, 6], [1, 2, 6, 2, 2, 2, 6, 2, 6], [6, 1, 1, 1, 2, 4, 1, 4, 6], [6, 4, 4, 2, 2, 4, 2, 2, 6], [6, 2, 2, 2, 4, 2, 2, 2, 6]]
theorem Tryd.gS : Tryd.prog.globalNamed "averment/sign.pairs" = some 0 := by kernel_rfl
theorem Tryd.tS : (Tryd.prog.globals[0]?).map (·.type) = some 42 := by kernel_rfl
theorem Tryd.uS : Tryd.prog.underlying 42 = some (.array 9 41) := by kernel_rfl
theorem Tryd.uS2 : Tryd.prog.underlying 41 = some (.array 9 3) := by kernel_rfl
theorem Tryd.cells3 : Tryd.prog.cellsOf 3 = 1 := by kernel_rfl
theorem Tryd.cells41 : Tryd.prog.cellsOf 41 = 9 := by kernel_rfl
theorem Tryd.cells42 : Tryd.prog.cellsOf 42 = 9 * 9 := by kernel_rfl
theorem stab_eq : ∀ i : Fin 9, ∀ j : Fin 9, ((stab2[i.val]?).bind (·[j.val]?)) = some (up (stb (i.val * 9 + j.val))) := by decide +kernel
theorem globS_of_laid {W : World} (h : laidMetH Tryd.prog laidS W) : GlobS W := by
  have h' : laidMet Tryd.prog laidS W := h
  obtain ⟨ps, ⟨g, t, cs, fuel, p, q, e1, e2, e3, e4, _⟩, _⟩ := h'
  obtain rfl := Option.some.inj (Tryd.gS.symm.trans e1)
  obtain rfl := Option.some.inj (Tryd.tS.symm.trans e2)
  intro n hn
  obtain ⟨zs, hz, hc⟩ := tab2_cell (zss := stab2) Tryd.uS Tryd.uS2 Tryd.underlying3 Tryd.cells3 Tryd.cells41 Tryd.cells42 e4 (n / 9) (by omega)
  have hs := stab_eq ⟨n / 9, by omega⟩ ⟨n % 9, by omega⟩
  simp only [hz, Option.bind_some] at hs
  rw [show n / 9 * 9 + n % 9 = n by omega] at hs
  rw [World.var?_cell Tryd.gS e3 n]
  have h3 := congrArg (·[n % 9]?) hc
  simp only [List.getElem?_map, hs, Option.map_some, List.getElem?_take, List.getElem?_drop] at h3
  rw [if_pos (by omega), show n / 9 * 9 + n % 9 = n by omega] at h3
  simpa using h3
theorem laidS_met (os : Os) (args : Array Value) : laidMetH Tryd.prog laidS ((World.doorLaid Tryd.prog 31 os).forCall (fun _ _ => 0) ⟨#[], args, []⟩).memory :=
  show laidMet Tryd.prog laidS _ from laidMet_of_run' 8 (by kernel_rfl) (by kernel_rfl)
theorem laidP_met (os : Os) (args : Array Value) : laidMetH Tryd.prog laidP ((World.doorLaid Tryd.prog 31 os).forCall (fun _ _ => 0) ⟨#[], args, []⟩).memory :=
  show laidMet Tryd.prog laidP _ from laidMet_of_run' 8 (by kernel_rfl) (by kernel_rfl)
end Go.Proofs.YtldgnfdhdmhcjaaDoor
