import Derived.Test.YtidhcmhheohciaaDoorG06
import Derived.Test.YtidhcmhheohciaaDoorG08
namespace Go.Proofs.YtidhcmhheohciaaDoor
open Go.RowKit
theorem sets_in (a b : Option Addr) (m c n d : Nat) (ys zs : List Int) (z : Int) (w : World) (h1 : InI w a m c ys) (h2 : InI w b n d zs) :
    Calls Tryd.prog 5 #[.slice a m c, .slice b n d, .int .i64 z] w fun e w' => e = .returned (.bool true) ∧ Below w.heap.size w w' := by
  obtain ⟨xs, rfl, hr, hc, _, hl, _⟩ := h1.read
  obtain ⟨ys, rfl, hs, hd, _, hm, _⟩ := h2.read
  exact bsets_walk xs ys a b c d z w hr hs (by omega) (by omega) lays_any
end Go.Proofs.YtidhcmhheohciaaDoor
