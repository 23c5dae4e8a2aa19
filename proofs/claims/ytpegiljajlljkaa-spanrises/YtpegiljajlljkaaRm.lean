import Derived.Test.YtpegiljajlljkaaRz0
import Derived.Test.YtpegiljajlljkaaSO
namespace Go.Proofs.Ytpegiljajlljkaa
open Go.RowKit
def joinP (a b : Int × Int) : Int × Int := (min a.1 b.1, max a.2 b.2)
theorem join_pair (a b : Int × Int) (w : World) : Calls Try.prog 21 #[.agg #[.int .i64 a.1, .int .i64 a.2], .agg #[.int .i64 b.1, .int .i64 b.2]] w fun e w' => e = .returned (.agg #[.int .i64 (joinP a b).1, .int .i64 (joinP a b).2]) ∧ Below w.heap.size w w' := bel3 (join_any a.1 a.2 b.1 b.2 w)
theorem join_sp (a b : Int × Int) (ha : Sp a) (hb : Sp b) : Sp (joinP a b) := by unfold Sp joinP at *; dsimp only; omega
theorem join_wi (a b : Int × Int) : Wi a (joinP a b) := by unfold Wi joinP; dsimp only; omega
theorem wi_refl (a : Int × Int) : Wi a a := ⟨Int.le_refl _, Int.le_refl _⟩
theorem within_of {a b : Int × Int} (h : Wi a b) : withinR a.1 a.2 b.1 b.2 = true := by
  unfold withinR
  rw [Bool.and_eq_true, decide_eq_true_iff, decide_eq_true_iff]
  exact h
theorem one_rises (op : Int) (a b : Int × Int) (ha : Sp a) (hb : Sp b) (h : Wi a b) (hok : (oneP op a).2 = true) : (oneP op b).2 = true ∧ Wi (oneP op a).1 (oneP op b).1 := by
  unfold oneP at *
  by_cases q2 : op = 2
  · simp only [if_pos q2]; exact ⟨trivial, h⟩
  simp only [if_neg q2] at hok ⊢
  by_cases q3 : op = 3
  · simp only [if_pos q3]
    unfold Wi Sp allP at *
    by_cases c1 : a.1 ≠ -9223372036854775808
    · rw [if_pos c1]
      by_cases c2 : b.1 ≠ -9223372036854775808
      · rw [if_pos c2]; refine ⟨rfl, ?_⟩; dsimp only; omega
      · rw [if_neg c2]
        by_cases c3 : b.2 = -9223372036854775808
        · omega
        · rw [if_neg c3]; refine ⟨rfl, ?_⟩; dsimp only; omega
    · rw [if_neg c1, if_neg (by omega)]
      by_cases c3 : a.2 = -9223372036854775808
      · rw [if_pos c3]
        by_cases c4 : b.2 = -9223372036854775808
        · rw [if_pos c4]; refine ⟨rfl, ?_⟩; dsimp only; omega
        · rw [if_neg c4]; refine ⟨rfl, ?_⟩; dsimp only; omega
      · rw [if_neg c3, if_neg (by omega)]; refine ⟨rfl, ?_⟩; dsimp only; omega
  simp only [if_neg q3] at hok
  exact Bool.noConfusion hok
theorem branch_rises (yes : Bool) (a b : Int × Int) (ha : Sp a) (h : Wi a b) (hok : (branchP a yes).2 = true) : (branchP b yes).2 = true ∧ Wi (branchP a yes).1 (branchP b yes).1 := by
  cases yes
  · have hok : (brF a).2 = true := hok
    show (brF b).2 = true ∧ Wi (brF a).1 (brF b).1
    unfold brF at *
    unfold Wi Sp at *
    by_cases c : a.1 ≤ 0 ∧ 0 ≤ a.2
    · rw [if_pos c, if_pos (by omega)]
      exact ⟨rfl, Int.le_refl _, Int.le_refl _⟩
    · rw [if_neg c] at hok
      exact Bool.noConfusion hok
  · have hok : (brT a).2 = true := hok
    show (brT b).2 = true ∧ Wi (brT a).1 (brT b).1
    unfold brT at *
    unfold Wi Sp at *
    by_cases c0 : a.1 = 0 ∧ a.2 = 0
    · rw [if_pos c0] at hok
      exact Bool.noConfusion hok
    rw [if_neg c0, if_neg (by omega)]
    repeat' (first | (refine ⟨rfl, ?_⟩; dsimp only; omega) | split)
/-- what SpanRises goes on with -/
structure Ri (w W : World) (N k7 k9 t10 t12 : Nat) (P R x y : Int × Int) : Prop where
  a : Bx W k7 P.1 P.2
  c : Bx W k9 R.1 R.2
  x : Bz W t10 x.1 x.2
  y : Bz W t12 y.1 y.2
  bel : Below N w W
  ne : k7 ≠ t10 ∧ k9 ≠ t10 ∧ k7 ≠ t12 ∧ k9 ≠ t12 ∧ t10 ≠ t12
  lo : N ≤ t10 ∧ N ≤ t12 ∧ N ≤ W.heap.size
theorem Ri.keep {w W W' : World} {N k7 k9 t10 t12 : Nat} {P R x y : Int × Int} (h : Ri w W N k7 k9 t10 t12 P R x y) (hb : Below W.heap.size W W') : Ri w W' N k7 k9 t10 t12 P R x y :=
  ⟨h.a.keep hb, h.c.keep hb, h.x.keep hb, h.y.keep hb, h.bel.trans (hb.mono h.lo.2.2), h.ne, h.lo.1, h.lo.2.1, Nat.le_trans h.lo.2.2 hb.size⟩
theorem Ri.setx {w W : World} {N k7 k9 t10 t12 : Nat} {P R x y : Int × Int} (h : Ri w W N k7 k9 t10 t12 P R x y) (z : Int × Int) : Ri w ((W.setCell ⟨t10, 0, none⟩ (.int .i64 z.1)).setCell ⟨t10, 1, none⟩ (.int .i64 z.2)) N k7 k9 t10 t12 P R z y :=
  ⟨h.a.set' h.ne.1 _ _, h.c.set' h.ne.2.1 _ _, h.x.wrote, h.y.set' h.ne.2.2.2.2.symm _ _, (h.bel.setCell (p := ⟨t10, 0, none⟩) h.lo.1 _).setCell (p := ⟨t10, 1, none⟩) h.lo.1 _, h.ne, h.lo.1, h.lo.2.1, by simpa using h.lo.2.2⟩
theorem Ri.sety {w W : World} {N k7 k9 t10 t12 : Nat} {P R x y : Int × Int} (h : Ri w W N k7 k9 t10 t12 P R x y) (z : Int × Int) : Ri w ((W.setCell ⟨t12, 0, none⟩ (.int .i64 z.1)).setCell ⟨t12, 1, none⟩ (.int .i64 z.2)) N k7 k9 t10 t12 P R x z :=
  ⟨h.a.set' h.ne.2.2.1 _ _, h.c.set' h.ne.2.2.2.1 _ _, h.x.set' h.ne.2.2.2.2 _ _, h.y.wrote, (h.bel.setCell (p := ⟨t12, 0, none⟩) h.lo.2.1 _).setCell (p := ⟨t12, 1, none⟩) h.lo.2.1 _, h.ne, h.lo.1, h.lo.2.1, by simpa using h.lo.2.2⟩
end Go.Proofs.Ytpegiljajlljkaa
