import Derived.Test.YtidhcmhheohciaaDoorG09
import Derived.Test.YtidhcmhheohciaaDoorG08
namespace Go.Proofs.YtidhcmhheohciaaDoor
open Go.RowKit
theorem once_in (n : Int) (a b : Option Addr) (m c m2 d : Nat) (ys zs : List Int) (w : World) (hG : Glob w) (h1 : InI w a m c ys) (h2 : InI w b m2 d zs) :
    Calls Tryd.prog 6 #[.int .i64 n, .slice a m c, .slice b m2 d] w fun e w' => e = .returned (.bool true) ∧ Below w.heap.size w w' := by
  obtain ⟨xs, rfl, hr, hc, hcn, hl, _⟩ := h1.read
  obtain ⟨us, rfl, hs, hd, hdn, hm, _⟩ := h2.read
  exact once_walk n xs us a b c d w hG hr hs hl hm
end Go.Proofs.YtidhcmhheohciaaDoor
