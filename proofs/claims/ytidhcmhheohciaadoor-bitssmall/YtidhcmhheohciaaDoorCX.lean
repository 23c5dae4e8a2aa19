import Derived.Test.YtidhcmhheohciaaDoorG06
import Derived.Test.YtidhcmhheohciaaDoorG08
namespace Go.Proofs.YtidhcmhheohciaaDoor
open Go.RowKit
theorem small_in (n v : Int) (a : Option Addr) (m c : Nat) (ys : List Int) (w : World) (h1 : InI w a m c ys) :
    Calls Tryd.prog 4 #[.int .i64 n, .slice a m c, .int .i64 v] w fun e w' => e = .returned (.bool true) ∧ Below w.heap.size w w' := by
  obtain ⟨xs, rfl, hr, hc, _, hl, _⟩ := h1.read
  exact small_walk n v xs a c w hr (by omega)
end Go.Proofs.YtidhcmhheohciaaDoor
