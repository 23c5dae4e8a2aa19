import Derived.Test.YtpegiljajlljkaaSe6
import Derived.Test.YtpegiljajlljkaaSp2
import Derived.Deep.RegionHeld3
namespace Go.Proofs.Ytpegiljajlljkaa
open Go.RowKit
/-- a box of two numbers -/
def Bx (w : World) (p : Nat) (x y : Int) : Prop := w.cell? ⟨p, 0, none⟩ = some (.int .i64 x) ∧ w.cell? ⟨p, 1, none⟩ = some (.int .i64 y)
theorem Bx.keep {w w' : World} {p : Nat} {x y : Int} (h : Bx w p x y) (hb : Below w.heap.size w w') : Bx w' p x y := by
  have hp : p < w.heap.size := World.block_lt_of_cell? w _ h.1
  exact ⟨(hb.cell (p := ⟨p, 0, none⟩) hp).trans h.1, (hb.cell (p := ⟨p, 1, none⟩) hp).trans h.2⟩
theorem Bx.new (w : World) (x y : Int) (t : TypeId) : Bx (w.alloc (.cells #[.int .i64 x, .int .i64 y] t)) w.heap.size x y := ⟨by simp, by simp⟩
theorem Bx.set {b : World} {p q : Nat} {x y : Int} (h : p < q) (h' : Bx b p x y) (v u : Value) : Bx ((b.setCell ⟨q, 0, none⟩ v).setCell ⟨q, 1, none⟩ u) p x y := by
  have ne : ∀ k j : Nat, (⟨q, j, none⟩ : Addr) ≠ ⟨p, k, none⟩ := fun k j e => by
    have := congrArg Addr.block e
    simp at this
    omega
  exact ⟨(World.cell?_setCell_other _ _ _ _ (ne 0 1)).trans ((World.cell?_setCell_other _ _ _ _ (ne 0 0)).trans h'.1), (World.cell?_setCell_other _ _ _ _ (ne 1 1)).trans ((World.cell?_setCell_other _ _ _ _ (ne 1 0)).trans h'.2)⟩
theorem Bx.set' {b : World} {p q : Nat} {x y : Int} (h : p ≠ q) (h' : Bx b p x y) (v u : Value) : Bx ((b.setCell ⟨q, 0, none⟩ v).setCell ⟨q, 1, none⟩ u) p x y := by
  have ne : ∀ k j : Nat, (⟨q, j, none⟩ : Addr) ≠ ⟨p, k, none⟩ := fun k j e => by
    have := congrArg Addr.block e
    simp at this
    omega
  exact ⟨(World.cell?_setCell_other _ _ _ _ (ne 0 1)).trans ((World.cell?_setCell_other _ _ _ _ (ne 0 0)).trans h'.1), (World.cell?_setCell_other _ _ _ _ (ne 1 1)).trans ((World.cell?_setCell_other _ _ _ _ (ne 1 0)).trans h'.2)⟩
theorem Bx.wrote {b : World} {q : Nat} {x y : Int} {v u : Value} (h0 : b.cell? ⟨q, 0, none⟩ = some v) (h1 : b.cell? ⟨q, 1, none⟩ = some u) : Bx ((b.setCell ⟨q, 0, none⟩ (.int .i64 x)).setCell ⟨q, 1, none⟩ (.int .i64 y)) q x y := by
  have e1 := World.cell?_setCell_same b ⟨q, 0, none⟩ (.int .i64 x) h0
  have e2 : (b.setCell ⟨q, 0, none⟩ (.int .i64 x)).cell? ⟨q, 1, none⟩ = some u := (World.cell?_setCell_other _ _ _ _ (by simp)).trans h1
  exact ⟨(World.cell?_setCell_other _ _ _ _ (by simp)).trans e1, World.cell?_setCell_same _ _ _ e2⟩
theorem Bx.lt {w : World} {p : Nat} {x y : Int} (h : Bx w p x y) : p < w.heap.size := World.block_lt_of_cell? w _ h.1
/-- a box that may be written -/
def Bz (w : World) (p : Nat) (x y : Int) : Prop := Bx w p x y ∧ w.frozen? ⟨p, 0, none⟩ = false ∧ w.frozen? ⟨p, 1, none⟩ = false
theorem Bz.keep {w w' : World} {p : Nat} {x y : Int} (h : Bz w p x y) (hb : Below w.heap.size w w') : Bz w' p x y :=
  ⟨h.1.keep hb, ((bcell hb).2 p 0 h.1.lt).trans h.2.1, ((bcell hb).2 p 1 h.1.lt).trans h.2.2⟩
theorem Bz.new (w : World) (x y : Int) (t : TypeId) : Bz (w.alloc (.cells #[.int .i64 x, .int .i64 y] t)) w.heap.size x y := ⟨Bx.new w x y t, by simp [go_sem], by simp [go_sem]⟩
theorem Bz.wrote {b : World} {q : Nat} {x y x' y' : Int} (h : Bz b q x y) : Bz ((b.setCell ⟨q, 0, none⟩ (.int .i64 x')).setCell ⟨q, 1, none⟩ (.int .i64 y')) q x' y' :=
  ⟨Bx.wrote h.1.1 h.1.2, by simpa using h.2.1, by simpa using h.2.2⟩
theorem Bz.set' {b : World} {p q : Nat} {x y : Int} (h : p ≠ q) (h' : Bz b p x y) (v u : Value) : Bz ((b.setCell ⟨q, 0, none⟩ v).setCell ⟨q, 1, none⟩ u) p x y :=
  ⟨h'.1.set' h v u, by simpa using h'.2.1, by simpa using h'.2.2⟩
theorem lift {S : World → Prop} {f : Nat} {args : Array Value} {w1 : World} {r : Value} (h : Calls Try.prog f args w1 fun e w' => e = .returned r ∧ Below w1.heap.size w1 w') (hS : S w1) (hcl : ∀ a b, S a → Below a.heap.size a b → S b) : Calls Try.prog f args w1 fun e w' => e = .returned r ∧ S w' :=
  h.mono fun _ _ ⟨h1, h2⟩ => ⟨h1, hcl _ _ hS h2⟩
theorem New1.bel {w w' : World} (h : New1 w w') : Below w.heap.size w w' := by obtain ⟨o, rfl⟩ := h; exact (Below.refl _ _).alloc (Nat.le_refl _) _
theorem New2.bel {w w' : World} (h : New2 w w') : Below w.heap.size w w' := by obtain ⟨o, p, rfl⟩ := h; exact ((Below.refl _ _).alloc (Nat.le_refl _) _).alloc (by simp) _
theorem New3.bel {w w' : World} (h : New3 w w') : Below w.heap.size w w' := by obtain ⟨o, p, q, rfl⟩ := h; exact (by repeat (first | exact Below.refl _ _ | (refine Below.drew ?_) | (refine below_drewN ?_ _) | (refine Below.setCell ?_ (by first | omega | (simp; done) | (simp; omega)) _) | (refine Below.alloc ?_ (by first | omega | (simp; done) | (simp; omega)) _) | (refine Below.trans ?_ (Below.mono (by assumption) (by first | omega | (simp; done) | (simp; omega))))))
theorem New4.bel {w w' : World} (h : New4 w w') : Below w.heap.size w w' := by obtain ⟨o, p, q, r, rfl⟩ := h; exact (by repeat (first | exact Below.refl _ _ | (refine Below.drew ?_) | (refine below_drewN ?_ _) | (refine Below.setCell ?_ (by first | omega | (simp; done) | (simp; omega)) _) | (refine Below.alloc ?_ (by first | omega | (simp; done) | (simp; omega)) _) | (refine Below.trans ?_ (Below.mono (by assumption) (by first | omega | (simp; done) | (simp; omega))))))
theorem New5.bel {w w' : World} (h : New5 w w') : Below w.heap.size w w' := by obtain ⟨o, p, q, r, s, rfl⟩ := h; exact (by repeat (first | exact Below.refl _ _ | (refine Below.drew ?_) | (refine below_drewN ?_ _) | (refine Below.setCell ?_ (by first | omega | (simp; done) | (simp; omega)) _) | (refine Below.alloc ?_ (by first | omega | (simp; done) | (simp; omega)) _) | (refine Below.trans ?_ (Below.mono (by assumption) (by first | omega | (simp; done) | (simp; omega))))))
theorem bel1 {f : Nat} {args : Array Value} {w1 : World} {r : Value} (h : Calls Try.prog f args w1 fun e w' => e = .returned r ∧ New1 w1 w') : Calls Try.prog f args w1 fun e w' => e = .returned r ∧ Below w1.heap.size w1 w' := h.mono fun _ _ ⟨h1, h2⟩ => ⟨h1, h2.bel⟩
theorem bel2 {f : Nat} {args : Array Value} {w1 : World} {r : Value} (h : Calls Try.prog f args w1 fun e w' => e = .returned r ∧ New2 w1 w') : Calls Try.prog f args w1 fun e w' => e = .returned r ∧ Below w1.heap.size w1 w' := h.mono fun _ _ ⟨h1, h2⟩ => ⟨h1, h2.bel⟩
theorem bel3 {f : Nat} {args : Array Value} {w1 : World} {r : Value} (h : Calls Try.prog f args w1 fun e w' => e = .returned r ∧ New3 w1 w') : Calls Try.prog f args w1 fun e w' => e = .returned r ∧ Below w1.heap.size w1 w' := h.mono fun _ _ ⟨h1, h2⟩ => ⟨h1, h2.bel⟩
theorem bel4 {f : Nat} {args : Array Value} {w1 : World} {r : Value} (h : Calls Try.prog f args w1 fun e w' => e = .returned r ∧ New4 w1 w') : Calls Try.prog f args w1 fun e w' => e = .returned r ∧ Below w1.heap.size w1 w' := h.mono fun _ _ ⟨h1, h2⟩ => ⟨h1, h2.bel⟩
theorem bel5 {f : Nat} {args : Array Value} {w1 : World} {r : Value} (h : Calls Try.prog f args w1 fun e w' => e = .returned r ∧ New5 w1 w') : Calls Try.prog f args w1 fun e w' => e = .returned r ∧ Below w1.heap.size w1 w' := h.mono fun _ _ ⟨h1, h2⟩ => ⟨h1, h2.bel⟩
theorem meet_below (b : Int × Int) (hb : Sp b) (h : b.1 ≤ -1) : meetP b (-9223372036854775808, -1) = (belowP b, true) := by
  unfold Sp at hb
  unfold meetP belowP
  dsimp only
  rw [if_pos (by omega), Int.max_eq_left (by omega)]
theorem meet_nobelow (b : Int × Int) (_hb : Sp b) (h : ¬ b.1 ≤ -1) : meetP b (-9223372036854775808, -1) = ((0, 0), false) := by
  unfold meetP
  dsimp only
  rw [if_neg (by omega)]
theorem meet_above (b : Int × Int) (hb : Sp b) (h : 1 ≤ b.2) : meetP b (1, 9223372036854775807) = (aboveP b, true) := by
  unfold Sp at hb
  unfold meetP aboveP
  dsimp only
  rw [if_pos (by omega), Int.min_eq_left (by omega)]
theorem meet_noabove (b : Int × Int) (hb : Sp b) (h : ¬ 1 ≤ b.2) : meetP b (1, 9223372036854775807) = ((0, 0), false) := by
  unfold Sp at hb
  unfold meetP
  dsimp only
  rw [if_neg (by omega)]
theorem sp_below (b : Int × Int) (hb : Sp b) (h : b.1 ≤ -1) : Sp (belowP b) ∧ (belowP b).2 < 0 := by
  unfold Sp belowP at *; dsimp only; omega
theorem sp_above (b : Int × Int) (hb : Sp b) (h : 1 ≤ b.2) : Sp (aboveP b) ∧ 0 < (aboveP b).1 := by
  unfold Sp aboveP at *; dsimp only; omega
end Go.Proofs.Ytpegiljajlljkaa
