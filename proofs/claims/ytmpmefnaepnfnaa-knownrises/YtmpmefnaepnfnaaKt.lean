import Derived.Test.YtmpmefnaepnfnaaKc
import Derived.Test.YtmpmefnaepnfnaaKd
import Derived.Test.YtmpmefnaepnfnaaKe
import Derived.LoopTactic
import Derived.Deep.RegionHeld3
namespace Go.Proofs.Ytmpmefnaepnfnaa
open Go.RowKit
/-- a box: its two cells; it may be written -/
def Bx (w : World) (p : Nat) (b : Bool) (n : Int) : Prop := w.cell? ⟨p, 0, none⟩ = some (.bool b) ∧ w.cell? ⟨p, 1, none⟩ = some (.int .i64 n)
theorem Bx.keep {w w' : World} {p : Nat} {b : Bool} {n : Int} (h : Bx w p b n) (hb : Below w.heap.size w w') : Bx w' p b n := by
  have hp : p < w.heap.size := World.block_lt_of_cell? w _ h.1
  exact ⟨(hb.cell (p := ⟨p, 0, none⟩) hp).trans h.1, (hb.cell (p := ⟨p, 1, none⟩) hp).trans h.2⟩
theorem Bx.new (w : World) (b : Bool) (n : Int) (t : TypeId) : Bx (w.alloc (.cells #[.bool b, .int .i64 n] t)) w.heap.size b n := ⟨by simp, by simp⟩
theorem Bx.set {b : World} {p q : Nat} {i : Bool} {n : Int} (h : p < q) (h' : Bx b p i n) (v u : Value) : Bx ((b.setCell ⟨q, 0, none⟩ v).setCell ⟨q, 1, none⟩ u) p i n := by
  have ne : ∀ k j : Nat, (⟨q, j, none⟩ : Addr) ≠ ⟨p, k, none⟩ := fun k j e => by
    have := congrArg Addr.block e
    simp at this
    omega
  exact ⟨(World.cell?_setCell_other _ _ _ _ (ne 0 1)).trans ((World.cell?_setCell_other _ _ _ _ (ne 0 0)).trans h'.1), (World.cell?_setCell_other _ _ _ _ (ne 1 1)).trans ((World.cell?_setCell_other _ _ _ _ (ne 1 0)).trans h'.2)⟩
theorem Bx.wrote {b : World} {q : Nat} {i : Bool} {n : Int} {v u : Value} (h0 : b.cell? ⟨q, 0, none⟩ = some v) (h1 : b.cell? ⟨q, 1, none⟩ = some u) : Bx ((b.setCell ⟨q, 0, none⟩ (.bool i)).setCell ⟨q, 1, none⟩ (.int .i64 n)) q i n := by
  have e1 := World.cell?_setCell_same b ⟨q, 0, none⟩ (.bool i) h0
  have e2 : (b.setCell ⟨q, 0, none⟩ (.bool i)).cell? ⟨q, 1, none⟩ = some u := (World.cell?_setCell_other _ _ _ _ (by simp)).trans h1
  exact ⟨(World.cell?_setCell_other _ _ _ _ (by simp)).trans e1, World.cell?_setCell_same _ _ _ e2⟩
theorem Bx.lt {w : World} {p : Nat} {i : Bool} {n : Int} (h : Bx w p i n) : p < w.heap.size := World.block_lt_of_cell? w _ h.1
theorem lift {S : World → Prop} {f : Nat} {args : Array Value} {w1 : World} {r : Value} (h : Calls Try.prog f args w1 fun e w' => e = .returned r ∧ Below w1.heap.size w1 w') (hS : S w1) (hcl : ∀ a b, S a → Below a.heap.size a b → S b) : Calls Try.prog f args w1 fun e w' => e = .returned r ∧ S w' :=
  h.mono fun _ _ ⟨h1, h2⟩ => ⟨h1, hcl _ _ hS h2⟩
theorem liftw {S : World → Prop} {f : Nat} {args : Array Value} {w1 : World} {r : Value} (h : Calls Try.prog f args w1 fun e w' => e = .returned r ∧ Below w1.heap.size w1 w') (hS : S w1) (hcl : ∀ a b, S a → Below a.heap.size a b → S b) : Calls Try.prog f args w1 fun e w' => e = .returned r ∧ S w' ∧ (∀ b o, b < w1.heap.size → w'.cell? ⟨b, o, none⟩ = w1.cell? ⟨b, o, none⟩) ∧ (∀ b o, b < w1.heap.size → w'.frozen? ⟨b, o, none⟩ = w1.frozen? ⟨b, o, none⟩) ∧ ∀ b, b < w1.heap.size → b < w'.heap.size :=
  h.mono fun _ _ ⟨h1, h2⟩ => ⟨h1, hcl _ _ hS h2, (bcell h2).1, (bcell h2).2, fun _ h => Nat.lt_of_lt_of_le h h2.size⟩
theorem New1.bel {w w' : World} (h : New1 w w') : Below w.heap.size w w' := by obtain ⟨o, rfl⟩ := h; exact (Below.refl _ _).alloc (Nat.le_refl _) _
theorem New2.bel {w w' : World} (h : New2 w w') : Below w.heap.size w w' := by obtain ⟨o, p, rfl⟩ := h; exact ((Below.refl _ _).alloc (Nat.le_refl _) _).alloc (by simp) _
theorem bel1 {f : Nat} {args : Array Value} {w1 : World} {r : Value} (h : Calls Try.prog f args w1 fun e w' => e = .returned r ∧ New1 w1 w') : Calls Try.prog f args w1 fun e w' => e = .returned r ∧ Below w1.heap.size w1 w' := h.mono fun _ _ ⟨h1, h2⟩ => ⟨h1, h2.bel⟩
theorem bel2 {f : Nat} {args : Array Value} {w1 : World} {r : Value} (h : Calls Try.prog f args w1 fun e w' => e = .returned r ∧ New2 w1 w') : Calls Try.prog f args w1 fun e w' => e = .returned r ∧ Below w1.heap.size w1 w' := h.mono fun _ _ ⟨h1, h2⟩ => ⟨h1, h2.bel⟩
set_option maxHeartbeats 4000000 in
theorem told_any (w : World) : Calls Try.prog 10 #[] w fun e w' => e = .returned (.bool true) ∧ Below w.heap.size w w' := by
  have t1 : twoI 4 true true 3 = true := by decide
  have t2 : twoN 4 true 2 true 3 = 5 := by decide +kernel
  have t3 : twoOk 4 true 3 = true := by decide
  have t4 : twoOk 7 true 0 = false := by decide
  have t5 : rightK false 0 = true := by decide
  have t6 : rightK false 1 = false := by decide
  have i2 : i64 2 := by unfold i64; omega
  have i3 : i64 3 := by unfold i64; omega
  have i0 : i64 0 := by unfold i64; omega
  go_enter Try.func10, Try.ntmps10
  go_wp2_with (first | (go_at_call 14; refine (any_any _).mono ?_; rintro e w' ⟨rfl, o, rfl⟩) | (go_at_call 13; refine (of_any _ _).mono ?_; rintro e w' ⟨rfl, o, rfl⟩) | (go_at_call_of 23 (Value.int .i64 4); refine (two_any _ _ _ _ _ _ (by assumption) (by assumption)).mono ?_; rintro e wA ⟨rfl, hbA⟩; obtain ⟨hcA, hfA⟩ := bcell hbA; have hzA := hbA.size; simp at hzA) | (go_at_call_of 23 (Value.int .i64 7); refine (two_any _ _ _ _ _ _ (by assumption) (by assumption)).mono ?_; rintro e wB ⟨rfl, hbB⟩; obtain ⟨hcB, hfB⟩ := bcell hbB; have hzB := hbB.size; simp at hzB))
  have b1 : Bx wB wA.heap.size true 5 := (((Bx.new wA true 5 24).keep ((Below.refl _ _).alloc (Nat.le_refl _) _)).keep ((Below.refl _ _).alloc (Nat.le_refl _) _)).keep hbB
  have b2 : Below w.heap.size w wB := (by repeat (first | exact Below.refl _ _ | (refine Below.drew ?_) | (refine Below.setCell ?_ (by first | omega | (simp; done) | (simp; omega)) _) | (refine Below.alloc ?_ (by first | omega | (simp; done) | (simp; omega)) _) | (refine Below.trans ?_ (Below.mono (by assumption) (by first | omega | (simp; done) | (simp; omega))))))
  generalize wA.heap.size = A at *
  clear hcB hfB hbB hbA hcA hfA hzA hzB
  have hcl : ∀ a b : World, (a.cell? ⟨A, 0, none⟩ = some (.bool true) ∧ a.cell? ⟨A, 1, none⟩ = some (.int .i64 5) ∧ Below w.heap.size w a) → Below a.heap.size a b → (b.cell? ⟨A, 0, none⟩ = some (.bool true) ∧ b.cell? ⟨A, 1, none⟩ = some (.int .i64 5) ∧ Below w.heap.size w b) :=
    fun a b h hb => by
      have hx := Bx.keep ⟨h.1, h.2.1⟩ hb
      exact ⟨hx.1, hx.2, h.2.2.trans (hb.mono h.2.2.size)⟩
  have hS0 := fun o => hcl wB (wB.alloc o) ⟨b1.1, b1.2, b2⟩ ((Below.refl _ _).alloc (Nat.le_refl _) o)
  go_region_held3 (fun w' => w'.cell? ⟨A, 0, none⟩ = some (.bool true) ∧ w'.cell? ⟨A, 1, none⟩ = some (.int .i64 5) ∧ Below w.heap.size w w')
    ((first | assumption | exact hS0 _ | exact hcl _ _ (hS0 _) ((Below.refl _ _).drew) | exact hcl _ _ (by assumption) ((Below.refl _ _).drew)))
    ((first
      | (go_at_call 14; refine (lift (bel1 (any_any _)) (by assumption) hcl).mono ?_; rintro e w2 ⟨rfl, h2⟩)
      | (go_at_call 13; refine (lift (bel1 (of_any _ _)) (by assumption) hcl).mono ?_; rintro e w2 ⟨rfl, h2⟩)
      | (go_at_call 12; refine (lift (bel1 (right_any _ _ _)) (by assumption) hcl).mono ?_; rintro e w2 ⟨rfl, h2⟩)
      | fail))
  all_goals (go_wp2; go_ret; exact ⟨rfl, h2.2.2⟩)
end Go.Proofs.Ytmpmefnaepnfnaa
