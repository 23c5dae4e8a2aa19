import Derived.Test.YthiacdbjlkpfgaaGreatDoorG00
import Derived.Lib.ItoaWalk
import Derived.Deep.CutBlock
import Derived.LoopTactic
import Derived.Deep.DeepCutAuto
namespace Go.Proofs.YthiacdbjlkpfgaaGreatDoor
open Go.RowKit
set_option maxHeartbeats 4000000 in
theorem nmeet_any (a b : Int × Int) (w : World) : Calls Tryz.prog 68 #[.agg #[.int .i64 a.1, .int .i64 a.2], .agg #[.int .i64 b.1, .int .i64 b.2]] w fun e w' => e = .returned (.tuple #[.agg #[.int .i64 ((meetP a b).1).1, .int .i64 ((meetP a b).1).2], .bool (meetP a b).2]) ∧ New5 w w' := by
  by_cases h1 : a.1 < b.1
  · by_cases h2 : b.2 < a.2
    · by_cases h3 : b.1 ≤ b.2 <;>
      · go_enter Tryz.func68, Tryz.ntmps68
        go_wp2
        all_goals (refine bodyPost_ret (by simp [results, Tryz.results68, go_sem]; try rfl) rfl ⟨?_, _, _, _, _, _, rfl⟩; exact ret_sb (by unfold meetP; repeat' (first | rfl | omega | (dsimp only; omega) | split | (exfalso; omega))) (by unfold meetP; repeat' (first | rfl | omega | (dsimp only; omega) | split | (exfalso; omega))) (by unfold meetP; repeat' (first | rfl | omega | (dsimp only; omega) | split | (exfalso; omega))))
    · by_cases h3 : b.1 ≤ a.2 <;>
      · go_enter Tryz.func68, Tryz.ntmps68
        go_wp2
        all_goals (refine bodyPost_ret (by simp [results, Tryz.results68, go_sem]; try rfl) rfl ⟨?_, _, _, _, _, _, rfl⟩; exact ret_sb (by unfold meetP; repeat' (first | rfl | omega | (dsimp only; omega) | split | (exfalso; omega))) (by unfold meetP; repeat' (first | rfl | omega | (dsimp only; omega) | split | (exfalso; omega))) (by unfold meetP; repeat' (first | rfl | omega | (dsimp only; omega) | split | (exfalso; omega))))
  · by_cases h2 : b.2 < a.2
    · by_cases h3 : a.1 ≤ b.2 <;>
      · go_enter Tryz.func68, Tryz.ntmps68
        go_wp2
        all_goals (refine bodyPost_ret (by simp [results, Tryz.results68, go_sem]; try rfl) rfl ⟨?_, _, _, _, _, _, rfl⟩; exact ret_sb (by unfold meetP; repeat' (first | rfl | omega | (dsimp only; omega) | split | (exfalso; omega))) (by unfold meetP; repeat' (first | rfl | omega | (dsimp only; omega) | split | (exfalso; omega))) (by unfold meetP; repeat' (first | rfl | omega | (dsimp only; omega) | split | (exfalso; omega))))
    · by_cases h3 : a.1 ≤ a.2 <;>
      · go_enter Tryz.func68, Tryz.ntmps68
        go_wp2
        all_goals (refine bodyPost_ret (by simp [results, Tryz.results68, go_sem]; try rfl) rfl ⟨?_, _, _, _, _, _, rfl⟩; exact ret_sb (by unfold meetP; repeat' (first | rfl | omega | (dsimp only; omega) | split | (exfalso; omega))) (by unfold meetP; repeat' (first | rfl | omega | (dsimp only; omega) | split | (exfalso; omega))) (by unfold meetP; repeat' (first | rfl | omega | (dsimp only; omega) | split | (exfalso; omega))))
end Go.Proofs.YthiacdbjlkpfgaaGreatDoor
namespace Go.Proofs.YthiacdbjlkpfgaaGreatDoor
open Go.RowKit
theorem hide {p : Prop} (h : p) : Hid p := h
/-- a Value's six cells at a block -/
structure Br (w : World) (q : Nat) (s : Int) (k : Bool) (n lo hi p : Int) : Prop where
  c0 : w.cell? ⟨q, 0, none⟩ = some (.int .i64 s)
  c1 : w.cell? ⟨q, 1, none⟩ = some (.bool k)
  c2 : w.cell? ⟨q, 2, none⟩ = some (.int .i64 n)
  c3 : w.cell? ⟨q, 3, none⟩ = some (.int .i64 lo)
  c4 : w.cell? ⟨q, 4, none⟩ = some (.int .i64 hi)
  c5 : w.cell? ⟨q, 5, none⟩ = some (.int .i64 p)
/-- they may be written -/
structure Fz (w : World) (q : Nat) : Prop where
  f0 : w.frozen? ⟨q, 0, none⟩ = false
  f1 : w.frozen? ⟨q, 1, none⟩ = false
  f2 : w.frozen? ⟨q, 2, none⟩ = false
  f3 : w.frozen? ⟨q, 3, none⟩ = false
  f4 : w.frozen? ⟨q, 4, none⟩ = false
  f5 : w.frozen? ⟨q, 5, none⟩ = false
theorem Br.lt {w : World} {q : Nat} {s : Int} {k : Bool} {n lo hi p : Int} (h : Br w q s k n lo hi p) : q < w.heap.size := World.block_lt_of_cell? w _ h.c0
theorem Br.keep {w w' : World} {q : Nat} {s : Int} {k : Bool} {n lo hi p : Int} (h : Br w q s k n lo hi p) (hb : Below w.heap.size w w') : Br w' q s k n lo hi p :=
  ⟨((bcell hb).1 q 0 h.lt).trans h.c0, ((bcell hb).1 q 1 h.lt).trans h.c1, ((bcell hb).1 q 2 h.lt).trans h.c2, ((bcell hb).1 q 3 h.lt).trans h.c3, ((bcell hb).1 q 4 h.lt).trans h.c4, ((bcell hb).1 q 5 h.lt).trans h.c5⟩
theorem Fz.keep {w w' : World} {q : Nat} (h : Fz w q) (hq : q < w.heap.size) (hb : Below w.heap.size w w') : Fz w' q :=
  ⟨((bcell hb).2 q 0 hq).trans h.f0, ((bcell hb).2 q 1 hq).trans h.f1, ((bcell hb).2 q 2 hq).trans h.f2, ((bcell hb).2 q 3 hq).trans h.f3, ((bcell hb).2 q 4 hq).trans h.f4, ((bcell hb).2 q 5 hq).trans h.f5⟩
theorem Br.new (w : World) (s : Int) (k : Bool) (n lo hi p : Int) (t : TypeId) : Br (w.alloc (.cells #[.int .i64 s, .bool k, .int .i64 n, .int .i64 lo, .int .i64 hi, .int .i64 p] t)) w.heap.size s k n lo hi p := ⟨by simp, by simp, by simp, by simp, by simp, by simp⟩
theorem Fz.new (w : World) (s : Int) (k : Bool) (n lo hi p : Int) (t : TypeId) : Fz (w.alloc (.cells #[.int .i64 s, .bool k, .int .i64 n, .int .i64 lo, .int .i64 hi, .int .i64 p] t)) w.heap.size := ⟨by simp [go_sem], by simp [go_sem], by simp [go_sem], by simp [go_sem], by simp [go_sem], by simp [go_sem]⟩
/-- a Value is written -/
abbrev st6 (w : World) (q : Nat) (a b c d e f : Value) : World := (((((w.setCell ⟨q, 0, none⟩ a).setCell ⟨q, 1, none⟩ b).setCell ⟨q, 2, none⟩ c).setCell ⟨q, 3, none⟩ d).setCell ⟨q, 4, none⟩ e).setCell ⟨q, 5, none⟩ f
theorem st6_cell (w : World) (q r o : Nat) (a b c d e f : Value) (h : r ≠ q) : (st6 w q a b c d e f).cell? ⟨r, o, none⟩ = w.cell? ⟨r, o, none⟩ := by
  have ne : ∀ j : Nat, (⟨q, j, none⟩ : Addr) ≠ ⟨r, o, none⟩ := fun j t => h (congrArg Addr.block t).symm
  unfold st6
  rw [World.cell?_setCell_other _ _ _ _ (ne 5), World.cell?_setCell_other _ _ _ _ (ne 4), World.cell?_setCell_other _ _ _ _ (ne 3), World.cell?_setCell_other _ _ _ _ (ne 2), World.cell?_setCell_other _ _ _ _ (ne 1), World.cell?_setCell_other _ _ _ _ (ne 0)]
theorem st6_frozen (w : World) (q r o : Nat) (a b c d e f : Value) : (st6 w q a b c d e f).frozen? ⟨r, o, none⟩ = w.frozen? ⟨r, o, none⟩ := by
  unfold st6
  simp
theorem Br.put {w : World} {q r : Nat} {s : Int} {k : Bool} {n lo hi p : Int} (h : Br w r s k n lo hi p) (hq : r ≠ q) (a b c d e f : Value) : Br (st6 w q a b c d e f) r s k n lo hi p :=
  ⟨(st6_cell w q r 0 a b c d e f hq).trans h.c0, (st6_cell w q r 1 a b c d e f hq).trans h.c1, (st6_cell w q r 2 a b c d e f hq).trans h.c2, (st6_cell w q r 3 a b c d e f hq).trans h.c3, (st6_cell w q r 4 a b c d e f hq).trans h.c4, (st6_cell w q r 5 a b c d e f hq).trans h.c5⟩
theorem Fz.put {w : World} {q r : Nat} (h : Fz w r) (a b c d e f : Value) : Fz (st6 w q a b c d e f) r :=
  ⟨(st6_frozen w q r 0 a b c d e f).trans h.f0, (st6_frozen w q r 1 a b c d e f).trans h.f1, (st6_frozen w q r 2 a b c d e f).trans h.f2, (st6_frozen w q r 3 a b c d e f).trans h.f3, (st6_frozen w q r 4 a b c d e f).trans h.f4, (st6_frozen w q r 5 a b c d e f).trans h.f5⟩
theorem Br.wrote {w : World} {q : Nat} {s : Int} {k : Bool} {n lo hi p : Int} (h : Br w q s k n lo hi p) (s' : Int) (k' : Bool) (n' lo' hi' p' : Int) : Br (st6 w q (.int .i64 s') (.bool k') (.int .i64 n') (.int .i64 lo') (.int .i64 hi') (.int .i64 p')) q s' k' n' lo' hi' p' := by
  have c0 := h.c0
  have c1 := h.c1
  have c2 := h.c2
  have c3 := h.c3
  have c4 := h.c4
  have c5 := h.c5
  unfold st6
  refine ⟨?_, ?_, ?_, ?_, ?_, ?_⟩ <;> simp [go_sem, *]
theorem st6_size (w : World) (q : Nat) (a b c d e f : Value) : (st6 w q a b c d e f).heap.size = w.heap.size := by unfold st6; simp
theorem st6_below {N : Nat} {w0 w : World} (h : Below N w0 w) (q : Nat) (hq : N ≤ q) (a b c d e f : Value) : Below N w0 (st6 w q a b c d e f) :=
  (((((h.setCell (p := ⟨q, 0, none⟩) hq a).setCell (p := ⟨q, 1, none⟩) hq b).setCell (p := ⟨q, 2, none⟩) hq c).setCell (p := ⟨q, 3, none⟩) hq d).setCell (p := ⟨q, 4, none⟩) hq e).setCell (p := ⟨q, 5, none⟩) hq f
theorem lift {S : World → Prop} {f : Nat} {args : Array Value} {w1 : World} {r : Value} (h : Calls Tryz.prog f args w1 fun e w' => e = .returned r ∧ Below w1.heap.size w1 w') (hS : S w1) (hcl : ∀ a b, S a → Below a.heap.size a b → S b) : Calls Tryz.prog f args w1 fun e w' => e = .returned r ∧ S w' :=
  h.mono fun _ _ ⟨h1, h2⟩ => ⟨h1, hcl _ _ hS h2⟩
theorem New1.bel {w w' : World} (h : New1 w w') : Below w.heap.size w w' := by obtain ⟨o, rfl⟩ := h; exact (Below.refl _ _).alloc (Nat.le_refl _) _
theorem New2.bel {w w' : World} (h : New2 w w') : Below w.heap.size w w' := by obtain ⟨o, p, rfl⟩ := h; exact ((Below.refl _ _).alloc (Nat.le_refl _) _).alloc (by simp) _
theorem New3.bel {w w' : World} (h : New3 w w') : Below w.heap.size w w' := by obtain ⟨o, p, q, rfl⟩ := h; exact (by repeat (first | exact Below.refl _ _ | (refine Below.drew ?_) | (refine below_drewN ?_ _) | (refine Below.setCell ?_ (by first | omega | (simp; done) | (simp; omega)) _) | (refine Below.alloc ?_ (by first | omega | (simp; done) | (simp; omega)) _) | (refine Below.trans ?_ (Below.mono (by assumption) (by first | omega | (simp; done) | (simp; omega))))))
theorem New4.bel {w w' : World} (h : New4 w w') : Below w.heap.size w w' := by obtain ⟨o, p, q, r, rfl⟩ := h; exact (by repeat (first | exact Below.refl _ _ | (refine Below.drew ?_) | (refine below_drewN ?_ _) | (refine Below.setCell ?_ (by first | omega | (simp; done) | (simp; omega)) _) | (refine Below.alloc ?_ (by first | omega | (simp; done) | (simp; omega)) _) | (refine Below.trans ?_ (Below.mono (by assumption) (by first | omega | (simp; done) | (simp; omega))))))
theorem New5.bel {w w' : World} (h : New5 w w') : Below w.heap.size w w' := by obtain ⟨o, p, q, r, s, rfl⟩ := h; exact (by repeat (first | exact Below.refl _ _ | (refine Below.drew ?_) | (refine below_drewN ?_ _) | (refine Below.setCell ?_ (by first | omega | (simp; done) | (simp; omega)) _) | (refine Below.alloc ?_ (by first | omega | (simp; done) | (simp; omega)) _) | (refine Below.trans ?_ (Below.mono (by assumption) (by first | omega | (simp; done) | (simp; omega))))))
theorem bel0 {f : Nat} {args : Array Value} {w1 : World} {r : Value} (h : Calls Tryz.prog f args w1 fun e w' => e = .returned r ∧ w' = w1) : Calls Tryz.prog f args w1 fun e w' => e = .returned r ∧ Below w1.heap.size w1 w' := h.mono fun _ _ ⟨h1, h2⟩ => ⟨h1, by rw [h2]; exact Below.refl _ _⟩
theorem bel1 {f : Nat} {args : Array Value} {w1 : World} {r : Value} (h : Calls Tryz.prog f args w1 fun e w' => e = .returned r ∧ New1 w1 w') : Calls Tryz.prog f args w1 fun e w' => e = .returned r ∧ Below w1.heap.size w1 w' := h.mono fun _ _ ⟨h1, h2⟩ => ⟨h1, h2.bel⟩
theorem bel2 {f : Nat} {args : Array Value} {w1 : World} {r : Value} (h : Calls Tryz.prog f args w1 fun e w' => e = .returned r ∧ New2 w1 w') : Calls Tryz.prog f args w1 fun e w' => e = .returned r ∧ Below w1.heap.size w1 w' := h.mono fun _ _ ⟨h1, h2⟩ => ⟨h1, h2.bel⟩
theorem bel3 {f : Nat} {args : Array Value} {w1 : World} {r : Value} (h : Calls Tryz.prog f args w1 fun e w' => e = .returned r ∧ New3 w1 w') : Calls Tryz.prog f args w1 fun e w' => e = .returned r ∧ Below w1.heap.size w1 w' := h.mono fun _ _ ⟨h1, h2⟩ => ⟨h1, h2.bel⟩
theorem bel4 {f : Nat} {args : Array Value} {w1 : World} {r : Value} (h : Calls Tryz.prog f args w1 fun e w' => e = .returned r ∧ New4 w1 w') : Calls Tryz.prog f args w1 fun e w' => e = .returned r ∧ Below w1.heap.size w1 w' := h.mono fun _ _ ⟨h1, h2⟩ => ⟨h1, h2.bel⟩
theorem bel5 {f : Nat} {args : Array Value} {w1 : World} {r : Value} (h : Calls Tryz.prog f args w1 fun e w' => e = .returned r ∧ New5 w1 w') : Calls Tryz.prog f args w1 fun e w' => e = .returned r ∧ Below w1.heap.size w1 w' := h.mono fun _ _ ⟨h1, h2⟩ => ⟨h1, h2.bel⟩
theorem lp_up (x : BitVec 3) (h : x &&& 3 = x) : lp (up x) = x := by unfold lp; rw [low_up]; exact h
theorem sjoinB (x y : BitVec 3) (w : World) : Calls Tryz.prog 60 #[.int .i64 (up x), .int .i64 (up y)] w fun e w' => e = .returned (.int .i64 (up (x ||| y))) ∧ Below w.heap.size w w' := by
  have h := bel0 (sjoin_any (up x) (up y) w)
  rw [low_up, low_up] at h
  exact h
theorem smeetB (x y : BitVec 3) (w : World) : Calls Tryz.prog 69 #[.int .i64 (up x), .int .i64 (up y)] w fun e w' => e = .returned (.int .i64 (up (x &&& y))) ∧ Below w.heap.size w w' := by
  have h := bel0 (smeet_any (up x) (up y) w)
  rw [low_up, low_up] at h
  exact h
theorem pjoinB (x y : BitVec 3) (w : World) (hx : x &&& 3 = x) (hy : y &&& 3 = y) : Calls Tryz.prog 63 #[.int .i64 (up x), .int .i64 (up y)] w fun e w' => e = .returned (.int .i64 (up (x ||| y))) ∧ Below w.heap.size w w' := by
  have h := bel0 (pjoin_any (up x) (up y) w)
  rw [lp_up x hx, lp_up y hy] at h
  exact h
theorem pmeetB (x y : BitVec 3) (w : World) (hx : x &&& 3 = x) (hy : y &&& 3 = y) : Calls Tryz.prog 70 #[.int .i64 (up x), .int .i64 (up y)] w fun e w' => e = .returned (.int .i64 (up (x &&& y))) ∧ Below w.heap.size w w' := by
  have h := bel0 (pmeet_any (up x) (up y) w)
  rw [lp_up x hx, lp_up y hy] at h
  exact h
end Go.Proofs.YthiacdbjlkpfgaaGreatDoor
namespace Go.Proofs.YthiacdbjlkpfgaaGreatDoor
open Go.RowKit
/-- a block of a Value that may be written -/
def Rw (w : World) (q : Nat) : Prop := ∃ s k n lo hi p, Br w q s k n lo hi p ∧ Fz w q
theorem Rw.lt {w : World} {q : Nat} (h : Rw w q) : q < w.heap.size := by obtain ⟨_, _, _, _, _, _, h, _⟩ := h; exact h.lt
theorem Rw.keep {w w' : World} {q : Nat} (h : Rw w q) (hb : Below w.heap.size w w') : Rw w' q := by
  obtain ⟨s, k, n, lo, hi, p, h1, h2⟩ := h
  exact ⟨s, k, n, lo, hi, p, h1.keep hb, h2.keep h1.lt hb⟩
theorem Rw.put {w : World} {q : Nat} (h : Rw w q) (s : Int) (k : Bool) (n lo hi p : Int) : Rw (st6 w q (.int .i64 s) (.bool k) (.int .i64 n) (.int .i64 lo) (.int .i64 hi) (.int .i64 p)) q := by
  obtain ⟨s0, k0, n0, lo0, hi0, p0, h1, h2⟩ := h
  exact ⟨s, k, n, lo, hi, p, h1.wrote s k n lo hi p, h2.put _ _ _ _ _ _⟩
theorem Rw.puto {w : World} {q r : Nat} (h : Rw w r) (hq : r ≠ q) (a b c d e f : Value) : Rw (st6 w q a b c d e f) r := by
  obtain ⟨s0, k0, n0, lo0, hi0, p0, h1, h2⟩ := h
  exact ⟨s0, k0, n0, lo0, hi0, p0, h1.put hq _ _ _ _ _ _, h2.put _ _ _ _ _ _⟩
set_option maxRecDepth 100000 in
set_option maxHeartbeats 16000000 in
theorem to_V (s : Int) (k : Bool) (n lo hi p : Int) (w : World) : Calls Tryz.prog 6 #[.agg #[.int .i64 s, .bool k, .int .i64 n, .int .i64 lo, .int .i64 hi, .int .i64 p]] w fun e w' => e = .returned (.agg #[.int .i64 s, .bool k, .int .i64 n, .int .i64 lo, .int .i64 hi, .int .i64 p]) ∧ Below w.heap.size w w' := by
  have x0 : Br ((w.alloc (.cells #[.int .i64 s, .bool k, .int .i64 n, .int .i64 lo, .int .i64 hi, .int .i64 p] 27)).alloc (.cells #[.int .i64 0, .bool false, .int .i64 0, .int .i64 0, .int .i64 0, .int .i64 0] 32)) (w.heap.size) s k n lo hi p := ((Br.new w s k n lo hi p 27)).keep ((Below.refl _ _).alloc (Nat.le_refl _) _)
  have x1 : Br ((w.alloc (.cells #[.int .i64 s, .bool k, .int .i64 n, .int .i64 lo, .int .i64 hi, .int .i64 p] 27)).alloc (.cells #[.int .i64 0, .bool false, .int .i64 0, .int .i64 0, .int .i64 0, .int .i64 0] 32)) (w.heap.size + 1) 0 false 0 0 0 0 := (by simpa using Br.new (w.alloc (.cells #[.int .i64 s, .bool k, .int .i64 n, .int .i64 lo, .int .i64 hi, .int .i64 p] 27)) 0 false 0 0 0 0 32 : Br ((w.alloc (.cells #[.int .i64 s, .bool k, .int .i64 n, .int .i64 lo, .int .i64 hi, .int .i64 p] 27)).alloc (.cells #[.int .i64 0, .bool false, .int .i64 0, .int .i64 0, .int .i64 0, .int .i64 0] 32)) (w.heap.size + 1) 0 false 0 0 0 0)
  have xf : Fz ((w.alloc (.cells #[.int .i64 s, .bool k, .int .i64 n, .int .i64 lo, .int .i64 hi, .int .i64 p] 27)).alloc (.cells #[.int .i64 0, .bool false, .int .i64 0, .int .i64 0, .int .i64 0, .int .i64 0] 32)) (w.heap.size + 1) := by simpa using Fz.new (w.alloc (.cells #[.int .i64 s, .bool k, .int .i64 n, .int .i64 lo, .int .i64 hi, .int .i64 p] 27)) 0 false 0 0 0 0 32
  have xb : Below w.heap.size w ((w.alloc (.cells #[.int .i64 s, .bool k, .int .i64 n, .int .i64 lo, .int .i64 hi, .int .i64 p] 27)).alloc (.cells #[.int .i64 0, .bool false, .int .i64 0, .int .i64 0, .int .i64 0, .int .i64 0] 32)) := (by repeat (first | exact Below.refl _ _ | (refine Below.drew ?_) | (refine below_drewN ?_ _) | (refine Below.setCell ?_ (by first | omega | (simp; done) | (simp; omega)) _) | (refine Below.alloc ?_ (by first | omega | (simp; done) | (simp; omega)) _) | (refine Below.trans ?_ (Below.mono (by assumption) (by first | omega | (simp; done) | (simp; omega))))))
  go_enter Tryz.func6, Tryz.ntmps6
  go_upto_region 1 with fail
  go_name_world W hW
  rw [hW] at x0 x1 xf xb
  clear hW
  obtain ⟨N, hN⟩ : ∃ N, N = w.heap.size := ⟨_, rfl⟩
  rw [← hN] at x0 x1 xf xb ⊢
  have HN : Hid (N = w.heap.size) := hN
  clear hN
  have HCL : Hid (∀ a b : World, (a.cell? ⟨N, 0, none⟩ = some (.int .i64 s) ∧ a.cell? ⟨N, 1, none⟩ = some (.bool k) ∧ a.cell? ⟨N, 2, none⟩ = some (.int .i64 n) ∧ a.cell? ⟨N, 3, none⟩ = some (.int .i64 lo) ∧ a.cell? ⟨N, 4, none⟩ = some (.int .i64 hi) ∧ a.cell? ⟨N, 5, none⟩ = some (.int .i64 p) ∧ Hid (Br a N s k n lo hi p ∧ Rw a (N + 1) ∧ Below N w a)) → Below a.heap.size a b → (b.cell? ⟨N, 0, none⟩ = some (.int .i64 s) ∧ b.cell? ⟨N, 1, none⟩ = some (.bool k) ∧ b.cell? ⟨N, 2, none⟩ = some (.int .i64 n) ∧ b.cell? ⟨N, 3, none⟩ = some (.int .i64 lo) ∧ b.cell? ⟨N, 4, none⟩ = some (.int .i64 hi) ∧ b.cell? ⟨N, 5, none⟩ = some (.int .i64 p) ∧ Hid (Br b N s k n lo hi p ∧ Rw b (N + 1) ∧ Below N w b))) := fun a b h hb => by
    have y := (h.2.2.2.2.2.2).out
    have z : Br b N s k n lo hi p ∧ Rw b (N + 1) ∧ Below N w b := ⟨y.1.keep hb, y.2.1.keep hb, y.2.2.trans (hb.mono (Nat.le_of_lt y.1.lt))⟩
    exact ⟨z.1.c0, z.1.c1, z.1.c2, z.1.c3, z.1.c4, z.1.c5, z⟩
  have z0 : Br W N s k n lo hi p ∧ Rw W (N + 1) ∧ Below N w W := ⟨x0, ⟨_, _, _, _, _, _, x1, xf⟩, xb⟩
  have hS0 : W.cell? ⟨N, 0, none⟩ = some (.int .i64 s) ∧ W.cell? ⟨N, 1, none⟩ = some (.bool k) ∧ W.cell? ⟨N, 2, none⟩ = some (.int .i64 n) ∧ W.cell? ⟨N, 3, none⟩ = some (.int .i64 lo) ∧ W.cell? ⟨N, 4, none⟩ = some (.int .i64 hi) ∧ W.cell? ⟨N, 5, none⟩ = some (.int .i64 p) ∧ Hid (Br W N s k n lo hi p ∧ Rw W (N + 1) ∧ Below N w W) := ⟨z0.1.c0, z0.1.c1, z0.1.c2, z0.1.c3, z0.1.c4, z0.1.c5, z0⟩
  clear x0 x1 xf xb z0
  refine wp_region_held_drew (S := fun w' => w'.cell? ⟨N, 0, none⟩ = some (.int .i64 s) ∧ w'.cell? ⟨N, 1, none⟩ = some (.bool k) ∧ w'.cell? ⟨N, 2, none⟩ = some (.int .i64 n) ∧ w'.cell? ⟨N, 3, none⟩ = some (.int .i64 lo) ∧ w'.cell? ⟨N, 4, none⟩ = some (.int .i64 hi) ∧ w'.cell? ⟨N, 5, none⟩ = some (.int .i64 p) ∧ Hid (Br w' N s k n lo hi p ∧ Rw w' (N + 1) ∧ Below N w w')) (by kernel_rfl) (HCL.out _ _ hS0 ((Below.refl _ _).drew)) (fun hHeld => ?_)
  refine wpAnyH_take (i := 0) (oi := ({ dst := some 3, op := Op.fieldAddr 27 (Operand.tmp 1) 0, type := 0, pos := "law.go:15", after := #[], guard := none } : Oper)) (v := ?_) rfl (by kernel_rfl) (by kernel_rfl) (by kernel_rfl) (fun _ _ _ h => h) (Or.inl ⟨by rfl, ?_⟩) (by assumption) ?_
  rotate_left
  · (intro wz hSw; (try dsimp only at hSw); go_simp; try with_reducible rfl)
  simp only [Act.put, List.setIfInBounds_toArray, List.set_cons_zero, List.set_cons_succ]
  refine wpAnyH_take (i := 1) (oi := ({ dst := some 4, op := Op.load 3 (Operand.tmp 3), type := 3, pos := "law.go:15", after := #[{ on := 0, ground := Ground.data }], guard := none } : Oper)) (v := ?_) rfl (by kernel_rfl) (by kernel_rfl) (by kernel_rfl) (fun _ _ _ h => h) (Or.inl ⟨by rfl, ?_⟩) (by assumption) ?_
  rotate_left
  · (intro wz hSw; (try dsimp only at hSw); go_simp; try with_reducible rfl)
  simp only [Act.put, List.setIfInBounds_toArray, List.set_cons_zero, List.set_cons_succ]
  refine wpAnyH_take (i := 2) (oi := ({ dst := some 5, op := Op.fieldAddr 27 (Operand.tmp 1) 1, type := 0, pos := "law.go:15", after := #[], guard := none } : Oper)) (v := ?_) rfl (by kernel_rfl) (by kernel_rfl) (by kernel_rfl) (fun _ _ _ h => h) (Or.inl ⟨by rfl, ?_⟩) (by assumption) ?_
  rotate_left
  · (intro wz hSw; (try dsimp only at hSw); go_simp; try with_reducible rfl)
  simp only [Act.put, List.setIfInBounds_toArray, List.set_cons_zero, List.set_cons_succ]
  refine wpAnyH_take (i := 3) (oi := ({ dst := some 6, op := Op.load 23 (Operand.tmp 5), type := 23, pos := "law.go:15", after := #[{ on := 2, ground := Ground.data }], guard := none } : Oper)) (v := ?_) rfl (by kernel_rfl) (by kernel_rfl) (by kernel_rfl) (fun _ _ _ h => h) (Or.inl ⟨by rfl, ?_⟩) (by assumption) ?_
  rotate_left
  · (intro wz hSw; (try dsimp only at hSw); go_simp; try with_reducible rfl)
  simp only [Act.put, List.setIfInBounds_toArray, List.set_cons_zero, List.set_cons_succ]
  refine wpAnyH_take (i := 5) (oi := ({ dst := some 8, op := Op.fieldAddr 27 (Operand.tmp 1) 2, type := 0, pos := "law.go:15", after := #[], guard := none } : Oper)) (v := ?_) rfl (by kernel_rfl) (by kernel_rfl) (by kernel_rfl) (fun _ _ _ h => h) (Or.inl ⟨by rfl, ?_⟩) (by assumption) ?_
  rotate_left
  · (intro wz hSw; (try dsimp only at hSw); go_simp; try with_reducible rfl)
  simp only [Act.put, List.setIfInBounds_toArray, List.set_cons_zero, List.set_cons_succ]
  refine wpAnyH_take (i := 6) (oi := ({ dst := some 9, op := Op.load 25 (Operand.tmp 8), type := 25, pos := "law.go:15", after := #[{ on := 5, ground := Ground.data }], guard := none } : Oper)) (v := ?_) rfl (by kernel_rfl) (by kernel_rfl) (by kernel_rfl) (fun _ _ _ h => h) (Or.inl ⟨by rfl, ?_⟩) (by assumption) ?_
  rotate_left
  · (intro wz hSw; (try dsimp only at hSw); go_simp; try with_reducible rfl)
  simp only [Act.put, List.setIfInBounds_toArray, List.set_cons_zero, List.set_cons_succ]
  refine wpAnyH_take (i := 8) (oi := ({ dst := some 11, op := Op.fieldAddr 27 (Operand.tmp 1) 3, type := 0, pos := "law.go:15", after := #[], guard := none } : Oper)) (v := ?_) rfl (by kernel_rfl) (by kernel_rfl) (by kernel_rfl) (fun _ _ _ h => h) (Or.inl ⟨by rfl, ?_⟩) (by assumption) ?_
  rotate_left
  · (intro wz hSw; (try dsimp only at hSw); go_simp; try with_reducible rfl)
  simp only [Act.put, List.setIfInBounds_toArray, List.set_cons_zero, List.set_cons_succ]
  refine wpAnyH_take (i := 9) (oi := ({ dst := some 12, op := Op.load 3 (Operand.tmp 11), type := 3, pos := "law.go:15", after := #[{ on := 8, ground := Ground.data }], guard := none } : Oper)) (v := ?_) rfl (by kernel_rfl) (by kernel_rfl) (by kernel_rfl) (fun _ _ _ h => h) (Or.inl ⟨by rfl, ?_⟩) (by assumption) ?_
  rotate_left
  · (intro wz hSw; (try dsimp only at hSw); go_simp; try with_reducible rfl)
  simp only [Act.put, List.setIfInBounds_toArray, List.set_cons_zero, List.set_cons_succ]
  refine wpAnyH_ready (rs := [4]) (by kernel_rfl) (by simp) ?_
  refine AllReadyH.cons (o := ({ dst := some 7, op := Op.call { callee := Callee.value (Operand.func 21), args := #[Operand.tmp 6], argTypes := #[23] }, type := 29, pos := "law.go:15", after := #[{ on := 3, ground := Ground.data }], guard := none } : Oper)) rfl (fun K hK => ?_) AllReadyH.nil
  go_simp
  go_at_call 21
  refine (lift (bel2 (kto_any _ _ _)) (by assumption) HCL.out).mono ?_
  rintro e v1 ⟨rfl, g1⟩
  refine hK.out _ _ g1 (fun hHeld => ?_)
  clear hK K
  refine wpAnyH_ready (rs := [7]) (by kernel_rfl) (by simp) ?_
  refine AllReadyH.cons (o := ({ dst := some 10, op := Op.call { callee := Callee.value (Operand.func 22), args := #[Operand.tmp 9], argTypes := #[25] }, type := 30, pos := "law.go:15", after := #[{ on := 6, ground := Ground.data }, { on := 4, ground := Ground.chain }], guard := none } : Oper)) rfl (fun K hK => ?_) AllReadyH.nil
  go_simp
  go_at_call 22
  refine (lift (bel2 (nto_any _ _ _)) (by assumption) HCL.out).mono ?_
  rintro e v2 ⟨rfl, g2⟩
  refine hK.out _ _ g2 (fun hHeld => ?_)
  clear hK K
  refine wpAnyH_take (i := 10) (oi := ({ dst := some 13, op := Op.build 32 #[(0, Operand.tmp 4), (1, Operand.tmp 7), (2, Operand.tmp 10), (3, Operand.tmp 12)], type := 32, pos := "law.go:15", after := #[{ on := 1, ground := Ground.data }, { on := 4, ground := Ground.data }, { on := 7, ground := Ground.data }, { on := 9, ground := Ground.data }], guard := none } : Oper)) (v := ?_) rfl (by kernel_rfl) (by kernel_rfl) (by kernel_rfl) (fun _ _ _ h => h) (Or.inl ⟨by rfl, ?_⟩) (by assumption) ?_
  rotate_left
  · (intro wz hSw; (try dsimp only at hSw); go_simp; try with_reducible rfl)
  simp only [Act.put, List.setIfInBounds_toArray, List.set_cons_zero, List.set_cons_succ]
  refine wpAnyH_ready (rs := [11]) (by kernel_rfl) (by simp) ?_
  refine AllReadyH.cons (o := ({ dst := none, op := Op.store 32 (Operand.tmp 2) (Operand.tmp 13), type := 0, pos := "law.go:15", after := #[{ on := 10, ground := Ground.data }, { on := 7, ground := Ground.chain }, { on := 0, ground := Ground.phase }, { on := 1, ground := Ground.phase }, { on := 2, ground := Ground.phase }, { on := 3, ground := Ground.phase }, { on := 4, ground := Ground.phase }, { on := 5, ground := Ground.phase }, { on := 6, ground := Ground.phase }, { on := 7, ground := Ground.phase }, { on := 8, ground := Ground.phase }, { on := 9, ground := Ground.phase }, { on := 10, ground := Ground.phase }], guard := none } : Oper)) rfl (fun K hK => ?_) AllReadyH.nil
  have zz := (hHeld.2.2.2.2.2.2).out
  obtain ⟨s9, k9, n9, lo9, hi9, p9, zb, zf⟩ := zz.2.1
  have zc0 := zb.c0
  have zf0 := zf.f0
  have zc1 := zb.c1
  have zf1 := zf.f1
  have zc2 := zb.c2
  have zf2 := zf.f2
  have zc3 := zb.c3
  have zf3 := zf.f3
  have zc4 := zb.c4
  have zf4 := zf.f4
  have zc5 := zb.c5
  have zf5 := zf.f5
  go_simp
  have zw := zb.wrote s k n lo hi p
  have zi : Br (st6 v2 (N + 1) (.int .i64 s) (.bool k) (.int .i64 n) (.int .i64 lo) (.int .i64 hi) (.int .i64 p)) N s k n lo hi p ∧ Rw (st6 v2 (N + 1) (.int .i64 s) (.bool k) (.int .i64 n) (.int .i64 lo) (.int .i64 hi) (.int .i64 p)) (N + 1) ∧ Below N w (st6 v2 (N + 1) (.int .i64 s) (.bool k) (.int .i64 n) (.int .i64 lo) (.int .i64 hi) (.int .i64 p)) := ⟨zz.1.put (by omega) _ _ _ _ _ _, zz.2.1.put s k n lo hi p, st6_below zz.2.2 _ (by omega) _ _ _ _ _ _⟩
  refine hK.out _ _ ⟨zi.1.c0, zi.1.c1, zi.1.c2, zi.1.c3, zi.1.c4, zi.1.c5, zi⟩ (fun _ => ?_)
  clear hK K zc0 zf0 zc1 zf1 zc2 zf2 zc3 zf3 zc4 zf4 zc5 zf5
  refine wpAnyH_done (by kernel_rfl) ?_ _
  clear hS0 HCL hHeld g1 g2
  have c0 := zw.c0
  have c1 := zw.c1
  have c2 := zw.c2
  have c3 := zw.c3
  have c4 := zw.c4
  have c5 := zw.c5
  have hB := zi.2.2
  clear zi zw zb zf zz
  go_wp2_with fail
  refine bodyPost_ret (by simp [results, Tryz.results6, go_sem, *]; try rfl) rfl ⟨?_, by rw [← HN.out]; exact hB⟩
  rfl
set_option maxRecDepth 100000 in
set_option maxHeartbeats 16000000 in
theorem from_V (s : Int) (k : Bool) (n lo hi p : Int) (w : World) : Calls Tryz.prog 9 #[.agg #[.int .i64 s, .bool k, .int .i64 n, .int .i64 lo, .int .i64 hi, .int .i64 p]] w fun e w' => e = .returned (.agg #[.int .i64 s, .bool k, .int .i64 n, .int .i64 lo, .int .i64 hi, .int .i64 p]) ∧ Below w.heap.size w w' := by
  have x0 : Br ((w.alloc (.cells #[.int .i64 s, .bool k, .int .i64 n, .int .i64 lo, .int .i64 hi, .int .i64 p] 32)).alloc (.cells #[.int .i64 0, .bool false, .int .i64 0, .int .i64 0, .int .i64 0, .int .i64 0] 27)) (w.heap.size) s k n lo hi p := ((Br.new w s k n lo hi p 32)).keep ((Below.refl _ _).alloc (Nat.le_refl _) _)
  have x1 : Br ((w.alloc (.cells #[.int .i64 s, .bool k, .int .i64 n, .int .i64 lo, .int .i64 hi, .int .i64 p] 32)).alloc (.cells #[.int .i64 0, .bool false, .int .i64 0, .int .i64 0, .int .i64 0, .int .i64 0] 27)) (w.heap.size + 1) 0 false 0 0 0 0 := (by simpa using Br.new (w.alloc (.cells #[.int .i64 s, .bool k, .int .i64 n, .int .i64 lo, .int .i64 hi, .int .i64 p] 32)) 0 false 0 0 0 0 27 : Br ((w.alloc (.cells #[.int .i64 s, .bool k, .int .i64 n, .int .i64 lo, .int .i64 hi, .int .i64 p] 32)).alloc (.cells #[.int .i64 0, .bool false, .int .i64 0, .int .i64 0, .int .i64 0, .int .i64 0] 27)) (w.heap.size + 1) 0 false 0 0 0 0)
  have xf : Fz ((w.alloc (.cells #[.int .i64 s, .bool k, .int .i64 n, .int .i64 lo, .int .i64 hi, .int .i64 p] 32)).alloc (.cells #[.int .i64 0, .bool false, .int .i64 0, .int .i64 0, .int .i64 0, .int .i64 0] 27)) (w.heap.size + 1) := by simpa using Fz.new (w.alloc (.cells #[.int .i64 s, .bool k, .int .i64 n, .int .i64 lo, .int .i64 hi, .int .i64 p] 32)) 0 false 0 0 0 0 27
  have xb : Below w.heap.size w ((w.alloc (.cells #[.int .i64 s, .bool k, .int .i64 n, .int .i64 lo, .int .i64 hi, .int .i64 p] 32)).alloc (.cells #[.int .i64 0, .bool false, .int .i64 0, .int .i64 0, .int .i64 0, .int .i64 0] 27)) := (by repeat (first | exact Below.refl _ _ | (refine Below.drew ?_) | (refine below_drewN ?_ _) | (refine Below.setCell ?_ (by first | omega | (simp; done) | (simp; omega)) _) | (refine Below.alloc ?_ (by first | omega | (simp; done) | (simp; omega)) _) | (refine Below.trans ?_ (Below.mono (by assumption) (by first | omega | (simp; done) | (simp; omega))))))
  go_enter Tryz.func9, Tryz.ntmps9
  go_upto_region 1 with fail
  go_name_world W hW
  rw [hW] at x0 x1 xf xb
  clear hW
  obtain ⟨N, hN⟩ : ∃ N, N = w.heap.size := ⟨_, rfl⟩
  rw [← hN] at x0 x1 xf xb ⊢
  have HN : Hid (N = w.heap.size) := hN
  clear hN
  have HCL : Hid (∀ a b : World, (a.cell? ⟨N, 0, none⟩ = some (.int .i64 s) ∧ a.cell? ⟨N, 1, none⟩ = some (.bool k) ∧ a.cell? ⟨N, 2, none⟩ = some (.int .i64 n) ∧ a.cell? ⟨N, 3, none⟩ = some (.int .i64 lo) ∧ a.cell? ⟨N, 4, none⟩ = some (.int .i64 hi) ∧ a.cell? ⟨N, 5, none⟩ = some (.int .i64 p) ∧ Hid (Br a N s k n lo hi p ∧ Rw a (N + 1) ∧ Below N w a)) → Below a.heap.size a b → (b.cell? ⟨N, 0, none⟩ = some (.int .i64 s) ∧ b.cell? ⟨N, 1, none⟩ = some (.bool k) ∧ b.cell? ⟨N, 2, none⟩ = some (.int .i64 n) ∧ b.cell? ⟨N, 3, none⟩ = some (.int .i64 lo) ∧ b.cell? ⟨N, 4, none⟩ = some (.int .i64 hi) ∧ b.cell? ⟨N, 5, none⟩ = some (.int .i64 p) ∧ Hid (Br b N s k n lo hi p ∧ Rw b (N + 1) ∧ Below N w b))) := fun a b h hb => by
    have y := (h.2.2.2.2.2.2).out
    have z : Br b N s k n lo hi p ∧ Rw b (N + 1) ∧ Below N w b := ⟨y.1.keep hb, y.2.1.keep hb, y.2.2.trans (hb.mono (Nat.le_of_lt y.1.lt))⟩
    exact ⟨z.1.c0, z.1.c1, z.1.c2, z.1.c3, z.1.c4, z.1.c5, z⟩
  have z0 : Br W N s k n lo hi p ∧ Rw W (N + 1) ∧ Below N w W := ⟨x0, ⟨_, _, _, _, _, _, x1, xf⟩, xb⟩
  have hS0 : W.cell? ⟨N, 0, none⟩ = some (.int .i64 s) ∧ W.cell? ⟨N, 1, none⟩ = some (.bool k) ∧ W.cell? ⟨N, 2, none⟩ = some (.int .i64 n) ∧ W.cell? ⟨N, 3, none⟩ = some (.int .i64 lo) ∧ W.cell? ⟨N, 4, none⟩ = some (.int .i64 hi) ∧ W.cell? ⟨N, 5, none⟩ = some (.int .i64 p) ∧ Hid (Br W N s k n lo hi p ∧ Rw W (N + 1) ∧ Below N w W) := ⟨z0.1.c0, z0.1.c1, z0.1.c2, z0.1.c3, z0.1.c4, z0.1.c5, z0⟩
  clear x0 x1 xf xb z0
  refine wp_region_held_drew (S := fun w' => w'.cell? ⟨N, 0, none⟩ = some (.int .i64 s) ∧ w'.cell? ⟨N, 1, none⟩ = some (.bool k) ∧ w'.cell? ⟨N, 2, none⟩ = some (.int .i64 n) ∧ w'.cell? ⟨N, 3, none⟩ = some (.int .i64 lo) ∧ w'.cell? ⟨N, 4, none⟩ = some (.int .i64 hi) ∧ w'.cell? ⟨N, 5, none⟩ = some (.int .i64 p) ∧ Hid (Br w' N s k n lo hi p ∧ Rw w' (N + 1) ∧ Below N w w')) (by kernel_rfl) (HCL.out _ _ hS0 ((Below.refl _ _).drew)) (fun hHeld => ?_)
  refine wpAnyH_take (i := 0) (oi := ({ dst := some 3, op := Op.fieldAddr 32 (Operand.tmp 1) 0, type := 0, pos := "law.go:19", after := #[], guard := none } : Oper)) (v := ?_) rfl (by kernel_rfl) (by kernel_rfl) (by kernel_rfl) (fun _ _ _ h => h) (Or.inl ⟨by rfl, ?_⟩) (by assumption) ?_
  rotate_left
  · (intro wz hSw; (try dsimp only at hSw); go_simp; try with_reducible rfl)
  simp only [Act.put, List.setIfInBounds_toArray, List.set_cons_zero, List.set_cons_succ]
  refine wpAnyH_take (i := 1) (oi := ({ dst := some 4, op := Op.load 3 (Operand.tmp 3), type := 3, pos := "law.go:19", after := #[{ on := 0, ground := Ground.data }], guard := none } : Oper)) (v := ?_) rfl (by kernel_rfl) (by kernel_rfl) (by kernel_rfl) (fun _ _ _ h => h) (Or.inl ⟨by rfl, ?_⟩) (by assumption) ?_
  rotate_left
  · (intro wz hSw; (try dsimp only at hSw); go_simp; try with_reducible rfl)
  simp only [Act.put, List.setIfInBounds_toArray, List.set_cons_zero, List.set_cons_succ]
  refine wpAnyH_take (i := 2) (oi := ({ dst := some 5, op := Op.fieldAddr 32 (Operand.tmp 1) 1, type := 0, pos := "law.go:19", after := #[], guard := none } : Oper)) (v := ?_) rfl (by kernel_rfl) (by kernel_rfl) (by kernel_rfl) (fun _ _ _ h => h) (Or.inl ⟨by rfl, ?_⟩) (by assumption) ?_
  rotate_left
  · (intro wz hSw; (try dsimp only at hSw); go_simp; try with_reducible rfl)
  simp only [Act.put, List.setIfInBounds_toArray, List.set_cons_zero, List.set_cons_succ]
  refine wpAnyH_take (i := 3) (oi := ({ dst := some 6, op := Op.load 29 (Operand.tmp 5), type := 29, pos := "law.go:19", after := #[{ on := 2, ground := Ground.data }], guard := none } : Oper)) (v := ?_) rfl (by kernel_rfl) (by kernel_rfl) (by kernel_rfl) (fun _ _ _ h => h) (Or.inl ⟨by rfl, ?_⟩) (by assumption) ?_
  rotate_left
  · (intro wz hSw; (try dsimp only at hSw); go_simp; try with_reducible rfl)
  simp only [Act.put, List.setIfInBounds_toArray, List.set_cons_zero, List.set_cons_succ]
  refine wpAnyH_take (i := 5) (oi := ({ dst := some 8, op := Op.fieldAddr 32 (Operand.tmp 1) 2, type := 0, pos := "law.go:19", after := #[], guard := none } : Oper)) (v := ?_) rfl (by kernel_rfl) (by kernel_rfl) (by kernel_rfl) (fun _ _ _ h => h) (Or.inl ⟨by rfl, ?_⟩) (by assumption) ?_
  rotate_left
  · (intro wz hSw; (try dsimp only at hSw); go_simp; try with_reducible rfl)
  simp only [Act.put, List.setIfInBounds_toArray, List.set_cons_zero, List.set_cons_succ]
  refine wpAnyH_take (i := 6) (oi := ({ dst := some 9, op := Op.load 30 (Operand.tmp 8), type := 30, pos := "law.go:19", after := #[{ on := 5, ground := Ground.data }], guard := none } : Oper)) (v := ?_) rfl (by kernel_rfl) (by kernel_rfl) (by kernel_rfl) (fun _ _ _ h => h) (Or.inl ⟨by rfl, ?_⟩) (by assumption) ?_
  rotate_left
  · (intro wz hSw; (try dsimp only at hSw); go_simp; try with_reducible rfl)
  simp only [Act.put, List.setIfInBounds_toArray, List.set_cons_zero, List.set_cons_succ]
  refine wpAnyH_take (i := 8) (oi := ({ dst := some 11, op := Op.fieldAddr 32 (Operand.tmp 1) 3, type := 0, pos := "law.go:19", after := #[], guard := none } : Oper)) (v := ?_) rfl (by kernel_rfl) (by kernel_rfl) (by kernel_rfl) (fun _ _ _ h => h) (Or.inl ⟨by rfl, ?_⟩) (by assumption) ?_
  rotate_left
  · (intro wz hSw; (try dsimp only at hSw); go_simp; try with_reducible rfl)
  simp only [Act.put, List.setIfInBounds_toArray, List.set_cons_zero, List.set_cons_succ]
  refine wpAnyH_take (i := 9) (oi := ({ dst := some 12, op := Op.load 3 (Operand.tmp 11), type := 3, pos := "law.go:19", after := #[{ on := 8, ground := Ground.data }], guard := none } : Oper)) (v := ?_) rfl (by kernel_rfl) (by kernel_rfl) (by kernel_rfl) (fun _ _ _ h => h) (Or.inl ⟨by rfl, ?_⟩) (by assumption) ?_
  rotate_left
  · (intro wz hSw; (try dsimp only at hSw); go_simp; try with_reducible rfl)
  simp only [Act.put, List.setIfInBounds_toArray, List.set_cons_zero, List.set_cons_succ]
  refine wpAnyH_ready (rs := [4]) (by kernel_rfl) (by simp) ?_
  refine AllReadyH.cons (o := ({ dst := some 7, op := Op.call { callee := Callee.value (Operand.func 33), args := #[Operand.tmp 6], argTypes := #[29] }, type := 23, pos := "law.go:19", after := #[{ on := 3, ground := Ground.data }], guard := none } : Oper)) rfl (fun K hK => ?_) AllReadyH.nil
  go_simp
  go_at_call 33
  refine (lift (bel2 (kfrom_any _ _ _)) (by assumption) HCL.out).mono ?_
  rintro e v1 ⟨rfl, g1⟩
  refine hK.out _ _ g1 (fun hHeld => ?_)
  clear hK K
  refine wpAnyH_ready (rs := [7]) (by kernel_rfl) (by simp) ?_
  refine AllReadyH.cons (o := ({ dst := some 10, op := Op.call { callee := Callee.value (Operand.func 34), args := #[Operand.tmp 9], argTypes := #[30] }, type := 25, pos := "law.go:19", after := #[{ on := 6, ground := Ground.data }, { on := 4, ground := Ground.chain }], guard := none } : Oper)) rfl (fun K hK => ?_) AllReadyH.nil
  go_simp
  go_at_call 34
  refine (lift (bel2 (nfrom_any _ _ _)) (by assumption) HCL.out).mono ?_
  rintro e v2 ⟨rfl, g2⟩
  refine hK.out _ _ g2 (fun hHeld => ?_)
  clear hK K
  refine wpAnyH_take (i := 10) (oi := ({ dst := some 13, op := Op.build 27 #[(0, Operand.tmp 4), (1, Operand.tmp 7), (2, Operand.tmp 10), (3, Operand.tmp 12)], type := 27, pos := "law.go:19", after := #[{ on := 1, ground := Ground.data }, { on := 4, ground := Ground.data }, { on := 7, ground := Ground.data }, { on := 9, ground := Ground.data }], guard := none } : Oper)) (v := ?_) rfl (by kernel_rfl) (by kernel_rfl) (by kernel_rfl) (fun _ _ _ h => h) (Or.inl ⟨by rfl, ?_⟩) (by assumption) ?_
  rotate_left
  · (intro wz hSw; (try dsimp only at hSw); go_simp; try with_reducible rfl)
  simp only [Act.put, List.setIfInBounds_toArray, List.set_cons_zero, List.set_cons_succ]
  refine wpAnyH_ready (rs := [11]) (by kernel_rfl) (by simp) ?_
  refine AllReadyH.cons (o := ({ dst := none, op := Op.store 27 (Operand.tmp 2) (Operand.tmp 13), type := 0, pos := "law.go:19", after := #[{ on := 10, ground := Ground.data }, { on := 7, ground := Ground.chain }, { on := 0, ground := Ground.phase }, { on := 1, ground := Ground.phase }, { on := 2, ground := Ground.phase }, { on := 3, ground := Ground.phase }, { on := 4, ground := Ground.phase }, { on := 5, ground := Ground.phase }, { on := 6, ground := Ground.phase }, { on := 7, ground := Ground.phase }, { on := 8, ground := Ground.phase }, { on := 9, ground := Ground.phase }, { on := 10, ground := Ground.phase }], guard := none } : Oper)) rfl (fun K hK => ?_) AllReadyH.nil
  have zz := (hHeld.2.2.2.2.2.2).out
  obtain ⟨s9, k9, n9, lo9, hi9, p9, zb, zf⟩ := zz.2.1
  have zc0 := zb.c0
  have zf0 := zf.f0
  have zc1 := zb.c1
  have zf1 := zf.f1
  have zc2 := zb.c2
  have zf2 := zf.f2
  have zc3 := zb.c3
  have zf3 := zf.f3
  have zc4 := zb.c4
  have zf4 := zf.f4
  have zc5 := zb.c5
  have zf5 := zf.f5
  go_simp
  have zw := zb.wrote s k n lo hi p
  have zi : Br (st6 v2 (N + 1) (.int .i64 s) (.bool k) (.int .i64 n) (.int .i64 lo) (.int .i64 hi) (.int .i64 p)) N s k n lo hi p ∧ Rw (st6 v2 (N + 1) (.int .i64 s) (.bool k) (.int .i64 n) (.int .i64 lo) (.int .i64 hi) (.int .i64 p)) (N + 1) ∧ Below N w (st6 v2 (N + 1) (.int .i64 s) (.bool k) (.int .i64 n) (.int .i64 lo) (.int .i64 hi) (.int .i64 p)) := ⟨zz.1.put (by omega) _ _ _ _ _ _, zz.2.1.put s k n lo hi p, st6_below zz.2.2 _ (by omega) _ _ _ _ _ _⟩
  refine hK.out _ _ ⟨zi.1.c0, zi.1.c1, zi.1.c2, zi.1.c3, zi.1.c4, zi.1.c5, zi⟩ (fun _ => ?_)
  clear hK K zc0 zf0 zc1 zf1 zc2 zf2 zc3 zf3 zc4 zf4 zc5 zf5
  refine wpAnyH_done (by kernel_rfl) ?_ _
  clear hS0 HCL hHeld g1 g2
  have c0 := zw.c0
  have c1 := zw.c1
  have c2 := zw.c2
  have c3 := zw.c3
  have c4 := zw.c4
  have c5 := zw.c5
  have hB := zi.2.2
  clear zi zw zb zf zz
  go_wp2_with fail
  refine bodyPost_ret (by simp [results, Tryz.results9, go_sem, *]; try rfl) rfl ⟨?_, by rw [← HN.out]; exact hB⟩
  rfl
end Go.Proofs.YthiacdbjlkpfgaaGreatDoor
namespace Go.Proofs.YthiacdbjlkpfgaaGreatDoor
open Go.RowKit
theorem Br.known {w : World} {q : Nat} {s : Int} {k : Bool} {n lo hi p : Int} (h : Br w q s k n lo hi p) (k' : Bool) (n' : Int) : Br ((w.setCell ⟨q, 1, none⟩ (.bool k')).setCell ⟨q, 2, none⟩ (.int .i64 n')) q s k' n' lo hi p := by
  have c0 := h.c0
  have c1 := h.c1
  have c2 := h.c2
  have c3 := h.c3
  have c4 := h.c4
  have c5 := h.c5
  refine ⟨?_, ?_, ?_, ?_, ?_, ?_⟩ <;> simp [go_sem, *]
theorem Br.span {w : World} {q : Nat} {s : Int} {k : Bool} {n lo hi p : Int} (h : Br w q s k n lo hi p) (lo' hi' : Int) : Br ((w.setCell ⟨q, 3, none⟩ (.int .i64 lo')).setCell ⟨q, 4, none⟩ (.int .i64 hi')) q s k n lo' hi' p := by
  have c0 := h.c0
  have c1 := h.c1
  have c2 := h.c2
  have c3 := h.c3
  have c4 := h.c4
  have c5 := h.c5
  refine ⟨?_, ?_, ?_, ?_, ?_, ?_⟩ <;> simp [go_sem, *]
theorem Br.two {w : World} {q r : Nat} {s : Int} {k : Bool} {n lo hi p : Int} (h : Br w r s k n lo hi p) (hq : r ≠ q) (i j : Nat) (u v : Value) : Br ((w.setCell ⟨q, i, none⟩ u).setCell ⟨q, j, none⟩ v) r s k n lo hi p := by
  have ne : ∀ o i : Nat, (⟨q, i, none⟩ : Addr) ≠ ⟨r, o, none⟩ := fun o i t => hq (congrArg Addr.block t).symm
  exact ⟨(World.cell?_setCell_other _ _ _ _ (ne 0 j)).trans ((World.cell?_setCell_other _ _ _ _ (ne 0 i)).trans h.c0), (World.cell?_setCell_other _ _ _ _ (ne 1 j)).trans ((World.cell?_setCell_other _ _ _ _ (ne 1 i)).trans h.c1), (World.cell?_setCell_other _ _ _ _ (ne 2 j)).trans ((World.cell?_setCell_other _ _ _ _ (ne 2 i)).trans h.c2), (World.cell?_setCell_other _ _ _ _ (ne 3 j)).trans ((World.cell?_setCell_other _ _ _ _ (ne 3 i)).trans h.c3), (World.cell?_setCell_other _ _ _ _ (ne 4 j)).trans ((World.cell?_setCell_other _ _ _ _ (ne 4 i)).trans h.c4), (World.cell?_setCell_other _ _ _ _ (ne 5 j)).trans ((World.cell?_setCell_other _ _ _ _ (ne 5 i)).trans h.c5)⟩
theorem Fz.two {w : World} {q r : Nat} (h : Fz w r) (i j : Nat) (u v : Value) : Fz ((w.setCell ⟨q, i, none⟩ u).setCell ⟨q, j, none⟩ v) r := by
  have f0 := h.f0
  have f1 := h.f1
  have f2 := h.f2
  have f3 := h.f3
  have f4 := h.f4
  have f5 := h.f5
  refine ⟨?_, ?_, ?_, ?_, ?_, ?_⟩ <;> simp [*]
theorem two_below {N : Nat} {w0 w : World} (h : Below N w0 w) (q i j : Nat) (hq : N ≤ q) (u v : Value) : Below N w0 ((w.setCell ⟨q, i, none⟩ u).setCell ⟨q, j, none⟩ v) :=
  (h.setCell (p := ⟨q, i, none⟩) hq u).setCell (p := ⟨q, j, none⟩) hq v
end Go.Proofs.YthiacdbjlkpfgaaGreatDoor
