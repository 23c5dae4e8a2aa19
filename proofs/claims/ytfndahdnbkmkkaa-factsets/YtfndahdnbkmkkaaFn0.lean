import Derived.Test.YtfndahdnbkmkkaaFa
namespace Go.Proofs.Ytfndahdnbkmkkaa
open Go.RowKit
/-- a Span that is Right, of int64s -/
def Sp (s : Int × Int) : Prop := -9223372036854775808 ≤ s.1 ∧ s.1 ≤ s.2 ∧ s.2 ≤ 9223372036854775807
/-- new blocks alone -/
def New1 (w w' : World) : Prop := ∃ o, w' = w.alloc o
def New2 (w w' : World) : Prop := ∃ o p, w' = (w.alloc o).alloc p
def New3 (w w' : World) : Prop := ∃ o p q, w' = ((w.alloc o).alloc p).alloc q
def New4 (w w' : World) : Prop := ∃ o p q r, w' = (((w.alloc o).alloc p).alloc q).alloc r
def New5 (w w' : World) : Prop := ∃ o p q r s, w' = ((((w.alloc o).alloc p).alloc q).alloc r).alloc s
end Go.Proofs.Ytfndahdnbkmkkaa
