import Derived.Test.YtfndahdnbkmkkaaFf
namespace Go.Proofs.Ytfndahdnbkmkkaa
open Go.RowKit
theorem Br.known {w : World} {q : Nat} {s : Int} {k : Bool} {n lo hi p : Int} (h : Br w q s k n lo hi p) (k' : Bool) (n' : Int) : Br ((w.setCell ⟨q, 1, none⟩ (.bool k')).setCell ⟨q, 2, none⟩ (.int .i64 n')) q s k' n' lo hi p := by
  have c0 := h.c0
  have c1 := h.c1
  have c2 := h.c2
  have c3 := h.c3
  have c4 := h.c4
  have c5 := h.c5
  refine ⟨?_, ?_, ?_, ?_, ?_, ?_⟩ <;> simp [go_sem, *]
theorem Br.span {w : World} {q : Nat} {s : Int} {k : Bool} {n lo hi p : Int} (h : Br w q s k n lo hi p) (lo' hi' : Int) : Br ((w.setCell ⟨q, 3, none⟩ (.int .i64 lo')).setCell ⟨q, 4, none⟩ (.int .i64 hi')) q s k n lo' hi' p := by
  have c0 := h.c0
  have c1 := h.c1
  have c2 := h.c2
  have c3 := h.c3
  have c4 := h.c4
  have c5 := h.c5
  refine ⟨?_, ?_, ?_, ?_, ?_, ?_⟩ <;> simp [go_sem, *]
theorem Br.two {w : World} {q r : Nat} {s : Int} {k : Bool} {n lo hi p : Int} (h : Br w r s k n lo hi p) (hq : r ≠ q) (i j : Nat) (u v : Value) : Br ((w.setCell ⟨q, i, none⟩ u).setCell ⟨q, j, none⟩ v) r s k n lo hi p := by
  have ne : ∀ o i : Nat, (⟨q, i, none⟩ : Addr) ≠ ⟨r, o, none⟩ := fun o i t => hq (congrArg Addr.block t).symm
  exact ⟨(World.cell?_setCell_other _ _ _ _ (ne 0 j)).trans ((World.cell?_setCell_other _ _ _ _ (ne 0 i)).trans h.c0), (World.cell?_setCell_other _ _ _ _ (ne 1 j)).trans ((World.cell?_setCell_other _ _ _ _ (ne 1 i)).trans h.c1), (World.cell?_setCell_other _ _ _ _ (ne 2 j)).trans ((World.cell?_setCell_other _ _ _ _ (ne 2 i)).trans h.c2), (World.cell?_setCell_other _ _ _ _ (ne 3 j)).trans ((World.cell?_setCell_other _ _ _ _ (ne 3 i)).trans h.c3), (World.cell?_setCell_other _ _ _ _ (ne 4 j)).trans ((World.cell?_setCell_other _ _ _ _ (ne 4 i)).trans h.c4), (World.cell?_setCell_other _ _ _ _ (ne 5 j)).trans ((World.cell?_setCell_other _ _ _ _ (ne 5 i)).trans h.c5)⟩
theorem Fz.two {w : World} {q r : Nat} (h : Fz w r) (i j : Nat) (u v : Value) : Fz ((w.setCell ⟨q, i, none⟩ u).setCell ⟨q, j, none⟩ v) r := by
  have f0 := h.f0
  have f1 := h.f1
  have f2 := h.f2
  have f3 := h.f3
  have f4 := h.f4
  have f5 := h.f5
  refine ⟨?_, ?_, ?_, ?_, ?_, ?_⟩ <;> simp [*]
theorem two_below {N : Nat} {w0 w : World} (h : Below N w0 w) (q i j : Nat) (hq : N ≤ q) (u v : Value) : Below N w0 ((w.setCell ⟨q, i, none⟩ u).setCell ⟨q, j, none⟩ v) :=
  (h.setCell (p := ⟨q, i, none⟩) hq u).setCell (p := ⟨q, j, none⟩) hq v
end Go.Proofs.Ytfndahdnbkmkkaa
