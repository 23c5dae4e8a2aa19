import Derived.Test.YtldgnfdhdmhcjaaDoorFr
import Derived.WideKeyPair
namespace Go.Proofs.YtldgnfdhdmhcjaaDoor
open Go.ChangeShapes Go.WideShapes Go.ChangeAt Go.RowKit Go.Lib
theorem arr33 : Go.WideMaps.ArrKey Tryd.prog 33 2 2 := ⟨Tryd.underlying33, by kernel_rfl, by kernel_rfl, by kernel_rfl⟩
theorem arr34 : Go.WideMaps.ArrKey Tryd.prog 34 3 2 := ⟨Tryd.underlying34, by kernel_rfl, by kernel_rfl, by kernel_rfl⟩
theorem i64_of_wf {n : Int} (h : (Lit.int .i64 n).wf = true) : i64 n := by
  simp only [Lit.wf, Bool.and_eq_true, decide_eq_true_eq] at h
  exact ⟨h.1, h.2⟩
end Go.Proofs.YtldgnfdhdmhcjaaDoor
