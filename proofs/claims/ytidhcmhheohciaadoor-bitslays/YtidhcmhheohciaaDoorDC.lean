import Derived.Test.YtidhcmhheohciaaDoorG07
import Derived.Test.YtidhcmhheohciaaDoorG08
namespace Go.Proofs.YtidhcmhheohciaaDoor
open Go.RowKit
theorem lays_in (n : Int) (a : Option Addr) (m c : Nat) (ys : List Int) (w : World) (hG : Glob w) (h1 : InI w a m c ys) :
    Calls Tryd.prog 3 #[.int .i64 n, .slice a m c] w fun e w' => e = .returned (.bool true) ∧ Below w.heap.size w w' := by
  have hcap : c ≤ 17592186043904 := by have := h1.2.2.2.2.1; omega
  obtain ⟨xs, rfl, hr, hc, hcn, hl, _⟩ := h1.read
  exact lays_walk n xs a c w hG hr hc hcn hcap
end Go.Proofs.YtidhcmhheohciaaDoor
