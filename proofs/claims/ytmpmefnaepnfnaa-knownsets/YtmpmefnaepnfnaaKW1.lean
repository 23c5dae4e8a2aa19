import Derived.Test.YtmpmefnaepnfnaaKW1t
import Derived.Test.YtmpmefnaepnfnaaKW1f
namespace Go.Proofs.Ytmpmefnaepnfnaa
open Go.RowKit
theorem ksets_walk (ai : Bool) (an : Int) (bi : Bool) (bn : Int) (n : Int) (w : World) : Calls Try.prog 3 #[.agg #[.bool ai, .int .i64 an], .agg #[.bool bi, .int .i64 bn], .int .i64 n] w fun e w' => e = .returned (.bool true) ∧ Below w.heap.size w w' := by
  cases ai
  · exact ksets_f an bi bn n w
  · exact ksets_t an bi bn n w
end Go.Proofs.Ytmpmefnaepnfnaa
