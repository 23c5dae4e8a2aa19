import Derived.Test.YtldgnfdhdmhcjaaDoorFr2
import Derived.Test.YtldgnfdhdmhcjaaDoorPp2
namespace Go.Proofs.YtldgnfdhdmhcjaaDoor
open Go.ChangeShapes Go.WideShapes Go.ChangeAt Go.RowKit Go.Lib
def ptab2 : List (List Int) := [[1, 2, 2, 1], [1, 2, 2, 1], [1, 1, 1, 2], [3, 3, 3, 3], [1, 3, 2, 3], [1, 1, 1, 2], [1, 2, 2, 1], [3, 3, 3, 3], [3, 1, 1, 3]]
theorem Tryd.gP : Tryd.prog.globalNamed "averment/parity.pairs" = some 1 := by kernel_rfl
theorem Tryd.tP : (Tryd.prog.globals[1]?).map (·.type) = some 44 := by kernel_rfl
theorem Tryd.uP : Tryd.prog.underlying 44 = some (.array 9 43) := by kernel_rfl
theorem Tryd.uP2 : Tryd.prog.underlying 43 = some (.array 4 3) := by kernel_rfl
theorem Tryd.cells43 : Tryd.prog.cellsOf 43 = 4 := by kernel_rfl
theorem Tryd.cells44 : Tryd.prog.cellsOf 44 = 9 * 4 := by kernel_rfl
theorem ptab_eq : ∀ i : Fin 9, ∀ j : Fin 4, ((ptab2[i.val]?).bind (·[j.val]?)) = some (up (ptb (i.val * 4 + j.val))) := by decide +kernel
theorem globP_of_laid {W : World} (h : laidMetH Tryd.prog laidP W) : GlobP W := by
  have h' : laidMet Tryd.prog laidP W := h
  obtain ⟨ps, ⟨g, t, cs, fuel, p, q, e1, e2, e3, e4, _⟩, _⟩ := h'
  obtain rfl := Option.some.inj (Tryd.gP.symm.trans e1)
  obtain rfl := Option.some.inj (Tryd.tP.symm.trans e2)
  intro n hn
  obtain ⟨zs, hz, hc⟩ := tab2_cell (zss := ptab2) Tryd.uP Tryd.uP2 Tryd.underlying3 Tryd.cells3 Tryd.cells43 Tryd.cells44 e4 (n / 4) (by omega)
  have hs := ptab_eq ⟨n / 4, by omega⟩ ⟨n % 4, by omega⟩
  simp only [hz, Option.bind_some] at hs
  rw [show n / 4 * 4 + n % 4 = n by omega] at hs
  rw [World.var?_cell Tryd.gP e3 n]
  have h3 := congrArg (·[n % 4]?) hc
  simp only [List.getElem?_map, hs, Option.map_some, List.getElem?_take, List.getElem?_drop] at h3
  rw [if_pos (by omega), show n / 4 * 4 + n % 4 = n by omega] at h3
  simpa using h3
end Go.Proofs.YtldgnfdhdmhcjaaDoor
