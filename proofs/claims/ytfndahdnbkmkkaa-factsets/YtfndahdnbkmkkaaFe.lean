import Derived.Test.YtfndahdnbkmkkaaFM
import Derived.Test.YtfndahdnbkmkkaaFd
import Derived.Lib.ItoaWalk
import Derived.Deep.CutBlock
import Derived.LoopTactic
import Derived.Deep.DeepCutAuto
namespace Go.Proofs.Ytfndahdnbkmkkaa
open Go.RowKit
theorem hide {p : Prop} (h : p) : Hid p := h
/-- a Value's six cells at a block -/
structure Br (w : World) (q : Nat) (s : Int) (k : Bool) (n lo hi p : Int) : Prop where
  c0 : w.cell? ⟨q, 0, none⟩ = some (.int .i64 s)
  c1 : w.cell? ⟨q, 1, none⟩ = some (.bool k)
  c2 : w.cell? ⟨q, 2, none⟩ = some (.int .i64 n)
  c3 : w.cell? ⟨q, 3, none⟩ = some (.int .i64 lo)
  c4 : w.cell? ⟨q, 4, none⟩ = some (.int .i64 hi)
  c5 : w.cell? ⟨q, 5, none⟩ = some (.int .i64 p)
/-- they may be written -/
structure Fz (w : World) (q : Nat) : Prop where
  f0 : w.frozen? ⟨q, 0, none⟩ = false
  f1 : w.frozen? ⟨q, 1, none⟩ = false
  f2 : w.frozen? ⟨q, 2, none⟩ = false
  f3 : w.frozen? ⟨q, 3, none⟩ = false
  f4 : w.frozen? ⟨q, 4, none⟩ = false
  f5 : w.frozen? ⟨q, 5, none⟩ = false
theorem Br.lt {w : World} {q : Nat} {s : Int} {k : Bool} {n lo hi p : Int} (h : Br w q s k n lo hi p) : q < w.heap.size := World.block_lt_of_cell? w _ h.c0
theorem Br.keep {w w' : World} {q : Nat} {s : Int} {k : Bool} {n lo hi p : Int} (h : Br w q s k n lo hi p) (hb : Below w.heap.size w w') : Br w' q s k n lo hi p :=
  ⟨((bcell hb).1 q 0 h.lt).trans h.c0, ((bcell hb).1 q 1 h.lt).trans h.c1, ((bcell hb).1 q 2 h.lt).trans h.c2, ((bcell hb).1 q 3 h.lt).trans h.c3, ((bcell hb).1 q 4 h.lt).trans h.c4, ((bcell hb).1 q 5 h.lt).trans h.c5⟩
theorem Fz.keep {w w' : World} {q : Nat} (h : Fz w q) (hq : q < w.heap.size) (hb : Below w.heap.size w w') : Fz w' q :=
  ⟨((bcell hb).2 q 0 hq).trans h.f0, ((bcell hb).2 q 1 hq).trans h.f1, ((bcell hb).2 q 2 hq).trans h.f2, ((bcell hb).2 q 3 hq).trans h.f3, ((bcell hb).2 q 4 hq).trans h.f4, ((bcell hb).2 q 5 hq).trans h.f5⟩
theorem Br.new (w : World) (s : Int) (k : Bool) (n lo hi p : Int) (t : TypeId) : Br (w.alloc (.cells #[.int .i64 s, .bool k, .int .i64 n, .int .i64 lo, .int .i64 hi, .int .i64 p] t)) w.heap.size s k n lo hi p := ⟨by simp, by simp, by simp, by simp, by simp, by simp⟩
theorem Fz.new (w : World) (s : Int) (k : Bool) (n lo hi p : Int) (t : TypeId) : Fz (w.alloc (.cells #[.int .i64 s, .bool k, .int .i64 n, .int .i64 lo, .int .i64 hi, .int .i64 p] t)) w.heap.size := ⟨by simp [go_sem], by simp [go_sem], by simp [go_sem], by simp [go_sem], by simp [go_sem], by simp [go_sem]⟩
/-- a Value is written -/
abbrev st6 (w : World) (q : Nat) (a b c d e f : Value) : World := (((((w.setCell ⟨q, 0, none⟩ a).setCell ⟨q, 1, none⟩ b).setCell ⟨q, 2, none⟩ c).setCell ⟨q, 3, none⟩ d).setCell ⟨q, 4, none⟩ e).setCell ⟨q, 5, none⟩ f
theorem st6_cell (w : World) (q r o : Nat) (a b c d e f : Value) (h : r ≠ q) : (st6 w q a b c d e f).cell? ⟨r, o, none⟩ = w.cell? ⟨r, o, none⟩ := by
  have ne : ∀ j : Nat, (⟨q, j, none⟩ : Addr) ≠ ⟨r, o, none⟩ := fun j t => h (congrArg Addr.block t).symm
  unfold st6
  rw [World.cell?_setCell_other _ _ _ _ (ne 5), World.cell?_setCell_other _ _ _ _ (ne 4), World.cell?_setCell_other _ _ _ _ (ne 3), World.cell?_setCell_other _ _ _ _ (ne 2), World.cell?_setCell_other _ _ _ _ (ne 1), World.cell?_setCell_other _ _ _ _ (ne 0)]
theorem st6_frozen (w : World) (q r o : Nat) (a b c d e f : Value) : (st6 w q a b c d e f).frozen? ⟨r, o, none⟩ = w.frozen? ⟨r, o, none⟩ := by
  unfold st6
  simp
theorem Br.put {w : World} {q r : Nat} {s : Int} {k : Bool} {n lo hi p : Int} (h : Br w r s k n lo hi p) (hq : r ≠ q) (a b c d e f : Value) : Br (st6 w q a b c d e f) r s k n lo hi p :=
  ⟨(st6_cell w q r 0 a b c d e f hq).trans h.c0, (st6_cell w q r 1 a b c d e f hq).trans h.c1, (st6_cell w q r 2 a b c d e f hq).trans h.c2, (st6_cell w q r 3 a b c d e f hq).trans h.c3, (st6_cell w q r 4 a b c d e f hq).trans h.c4, (st6_cell w q r 5 a b c d e f hq).trans h.c5⟩
theorem Fz.put {w : World} {q r : Nat} (h : Fz w r) (a b c d e f : Value) : Fz (st6 w q a b c d e f) r :=
  ⟨(st6_frozen w q r 0 a b c d e f).trans h.f0, (st6_frozen w q r 1 a b c d e f).trans h.f1, (st6_frozen w q r 2 a b c d e f).trans h.f2, (st6_frozen w q r 3 a b c d e f).trans h.f3, (st6_frozen w q r 4 a b c d e f).trans h.f4, (st6_frozen w q r 5 a b c d e f).trans h.f5⟩
theorem Br.wrote {w : World} {q : Nat} {s : Int} {k : Bool} {n lo hi p : Int} (h : Br w q s k n lo hi p) (s' : Int) (k' : Bool) (n' lo' hi' p' : Int) : Br (st6 w q (.int .i64 s') (.bool k') (.int .i64 n') (.int .i64 lo') (.int .i64 hi') (.int .i64 p')) q s' k' n' lo' hi' p' := by
  have c0 := h.c0
  have c1 := h.c1
  have c2 := h.c2
  have c3 := h.c3
  have c4 := h.c4
  have c5 := h.c5
  unfold st6
  refine ⟨?_, ?_, ?_, ?_, ?_, ?_⟩ <;> simp [go_sem, *]
theorem st6_size (w : World) (q : Nat) (a b c d e f : Value) : (st6 w q a b c d e f).heap.size = w.heap.size := by unfold st6; simp
theorem st6_below {N : Nat} {w0 w : World} (h : Below N w0 w) (q : Nat) (hq : N ≤ q) (a b c d e f : Value) : Below N w0 (st6 w q a b c d e f) :=
  (((((h.setCell (p := ⟨q, 0, none⟩) hq a).setCell (p := ⟨q, 1, none⟩) hq b).setCell (p := ⟨q, 2, none⟩) hq c).setCell (p := ⟨q, 3, none⟩) hq d).setCell (p := ⟨q, 4, none⟩) hq e).setCell (p := ⟨q, 5, none⟩) hq f
theorem lift {S : World → Prop} {f : Nat} {args : Array Value} {w1 : World} {r : Value} (h : Calls Try.prog f args w1 fun e w' => e = .returned r ∧ Below w1.heap.size w1 w') (hS : S w1) (hcl : ∀ a b, S a → Below a.heap.size a b → S b) : Calls Try.prog f args w1 fun e w' => e = .returned r ∧ S w' :=
  h.mono fun _ _ ⟨h1, h2⟩ => ⟨h1, hcl _ _ hS h2⟩
theorem New1.bel {w w' : World} (h : New1 w w') : Below w.heap.size w w' := by obtain ⟨o, rfl⟩ := h; exact (Below.refl _ _).alloc (Nat.le_refl _) _
theorem New2.bel {w w' : World} (h : New2 w w') : Below w.heap.size w w' := by obtain ⟨o, p, rfl⟩ := h; exact ((Below.refl _ _).alloc (Nat.le_refl _) _).alloc (by simp) _
theorem New3.bel {w w' : World} (h : New3 w w') : Below w.heap.size w w' := by obtain ⟨o, p, q, rfl⟩ := h; exact (by repeat (first | exact Below.refl _ _ | (refine Below.drew ?_) | (refine below_drewN ?_ _) | (refine Below.setCell ?_ (by first | omega | (simp; done) | (simp; omega)) _) | (refine Below.alloc ?_ (by first | omega | (simp; done) | (simp; omega)) _) | (refine Below.trans ?_ (Below.mono (by assumption) (by first | omega | (simp; done) | (simp; omega))))))
theorem New4.bel {w w' : World} (h : New4 w w') : Below w.heap.size w w' := by obtain ⟨o, p, q, r, rfl⟩ := h; exact (by repeat (first | exact Below.refl _ _ | (refine Below.drew ?_) | (refine below_drewN ?_ _) | (refine Below.setCell ?_ (by first | omega | (simp; done) | (simp; omega)) _) | (refine Below.alloc ?_ (by first | omega | (simp; done) | (simp; omega)) _) | (refine Below.trans ?_ (Below.mono (by assumption) (by first | omega | (simp; done) | (simp; omega))))))
theorem New5.bel {w w' : World} (h : New5 w w') : Below w.heap.size w w' := by obtain ⟨o, p, q, r, s, rfl⟩ := h; exact (by repeat (first | exact Below.refl _ _ | (refine Below.drew ?_) | (refine below_drewN ?_ _) | (refine Below.setCell ?_ (by first | omega | (simp; done) | (simp; omega)) _) | (refine Below.alloc ?_ (by first | omega | (simp; done) | (simp; omega)) _) | (refine Below.trans ?_ (Below.mono (by assumption) (by first | omega | (simp; done) | (simp; omega))))))
theorem bel0 {f : Nat} {args : Array Value} {w1 : World} {r : Value} (h : Calls Try.prog f args w1 fun e w' => e = .returned r ∧ w' = w1) : Calls Try.prog f args w1 fun e w' => e = .returned r ∧ Below w1.heap.size w1 w' := h.mono fun _ _ ⟨h1, h2⟩ => ⟨h1, by rw [h2]; exact Below.refl _ _⟩
theorem bel1 {f : Nat} {args : Array Value} {w1 : World} {r : Value} (h : Calls Try.prog f args w1 fun e w' => e = .returned r ∧ New1 w1 w') : Calls Try.prog f args w1 fun e w' => e = .returned r ∧ Below w1.heap.size w1 w' := h.mono fun _ _ ⟨h1, h2⟩ => ⟨h1, h2.bel⟩
theorem bel2 {f : Nat} {args : Array Value} {w1 : World} {r : Value} (h : Calls Try.prog f args w1 fun e w' => e = .returned r ∧ New2 w1 w') : Calls Try.prog f args w1 fun e w' => e = .returned r ∧ Below w1.heap.size w1 w' := h.mono fun _ _ ⟨h1, h2⟩ => ⟨h1, h2.bel⟩
theorem bel3 {f : Nat} {args : Array Value} {w1 : World} {r : Value} (h : Calls Try.prog f args w1 fun e w' => e = .returned r ∧ New3 w1 w') : Calls Try.prog f args w1 fun e w' => e = .returned r ∧ Below w1.heap.size w1 w' := h.mono fun _ _ ⟨h1, h2⟩ => ⟨h1, h2.bel⟩
theorem bel4 {f : Nat} {args : Array Value} {w1 : World} {r : Value} (h : Calls Try.prog f args w1 fun e w' => e = .returned r ∧ New4 w1 w') : Calls Try.prog f args w1 fun e w' => e = .returned r ∧ Below w1.heap.size w1 w' := h.mono fun _ _ ⟨h1, h2⟩ => ⟨h1, h2.bel⟩
theorem bel5 {f : Nat} {args : Array Value} {w1 : World} {r : Value} (h : Calls Try.prog f args w1 fun e w' => e = .returned r ∧ New5 w1 w') : Calls Try.prog f args w1 fun e w' => e = .returned r ∧ Below w1.heap.size w1 w' := h.mono fun _ _ ⟨h1, h2⟩ => ⟨h1, h2.bel⟩
/-! the leaf calls, of a Value's parts -/
theorem lp_up (x : BitVec 3) (h : x &&& 3 = x) : lp (up x) = x := by unfold lp; rw [low_up]; exact h
theorem sjoinB (x y : BitVec 3) (w : World) : Calls Try.prog 61 #[.int .i64 (up x), .int .i64 (up y)] w fun e w' => e = .returned (.int .i64 (up (x ||| y))) ∧ Below w.heap.size w w' := by
  have h := bel0 (sjoin_any (up x) (up y) w)
  rw [low_up, low_up] at h
  exact h
theorem smeetB (x y : BitVec 3) (w : World) : Calls Try.prog 36 #[.int .i64 (up x), .int .i64 (up y)] w fun e w' => e = .returned (.int .i64 (up (x &&& y))) ∧ Below w.heap.size w w' := by
  have h := bel0 (smeet_any (up x) (up y) w)
  rw [low_up, low_up] at h
  exact h
theorem swithinB (x y : BitVec 3) (w : World) : Calls Try.prog 67 #[.int .i64 (up x), .int .i64 (up y)] w fun e w' => e = .returned (.bool (withinS x y)) ∧ Below w.heap.size w w' := by
  have h := bel0 (swithin_any (up x) (up y) w)
  rw [low_up, low_up] at h
  exact h
theorem pjoinB (x y : BitVec 3) (w : World) (hx : x &&& 3 = x) (hy : y &&& 3 = y) : Calls Try.prog 64 #[.int .i64 (up x), .int .i64 (up y)] w fun e w' => e = .returned (.int .i64 (up (x ||| y))) ∧ Below w.heap.size w w' := by
  have h := bel0 (pjoin_any (up x) (up y) w)
  rw [lp_up x hx, lp_up y hy] at h
  exact h
theorem pmeetB (x y : BitVec 3) (w : World) (hx : x &&& 3 = x) (hy : y &&& 3 = y) : Calls Try.prog 37 #[.int .i64 (up x), .int .i64 (up y)] w fun e w' => e = .returned (.int .i64 (up (x &&& y))) ∧ Below w.heap.size w w' := by
  have h := bel0 (pmeet_any (up x) (up y) w)
  rw [lp_up x hx, lp_up y hy] at h
  exact h
theorem pwithinB (x y : BitVec 3) (w : World) (hx : x &&& 3 = x) (hy : y &&& 3 = y) : Calls Try.prog 70 #[.int .i64 (up x), .int .i64 (up y)] w fun e w' => e = .returned (.bool (withinS x y)) ∧ Below w.heap.size w w' := by
  have h := bel0 (pwithin_any (up x) (up y) w)
  rw [lp_up x hx, lp_up y hy] at h
  exact h
end Go.Proofs.Ytfndahdnbkmkkaa
