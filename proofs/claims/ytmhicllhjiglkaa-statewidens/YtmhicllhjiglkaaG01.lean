import Derived.Test.YtmhicllhjiglkaaG00
import Derived.Lib.ItoaWalk
import Derived.Deep.CutBlock
import Derived.LoopTactic
import Derived.Deep.DeepCutAuto
import Derived.Test.YtmhicllhjiglkaaProg
import Derived.WalkKit
import Derived.WalkSpells
import Derived.WalkLawsBesides
import Derived.ProofKit
import Derived.Below
import Derived.BigQuiet
import Derived.Deep.QuietTactic
import Derived.OwnWalk
import Derived.Laws.MakeOwn
namespace Go.Proofs.Ytmhicllhjiglkaa
open Go.RowKit
theorem hide {p : Prop} (h : p) : Hid p := h
/-- a Value's six cells at a block -/
structure Br (w : World) (q : Nat) (s : Int) (k : Bool) (n lo hi p : Int) : Prop where
  c0 : w.cell? ⟨q, 0, none⟩ = some (.int .i64 s)
  c1 : w.cell? ⟨q, 1, none⟩ = some (.bool k)
  c2 : w.cell? ⟨q, 2, none⟩ = some (.int .i64 n)
  c3 : w.cell? ⟨q, 3, none⟩ = some (.int .i64 lo)
  c4 : w.cell? ⟨q, 4, none⟩ = some (.int .i64 hi)
  c5 : w.cell? ⟨q, 5, none⟩ = some (.int .i64 p)
/-- they may be written -/
structure Fz (w : World) (q : Nat) : Prop where
  f0 : w.frozen? ⟨q, 0, none⟩ = false
  f1 : w.frozen? ⟨q, 1, none⟩ = false
  f2 : w.frozen? ⟨q, 2, none⟩ = false
  f3 : w.frozen? ⟨q, 3, none⟩ = false
  f4 : w.frozen? ⟨q, 4, none⟩ = false
  f5 : w.frozen? ⟨q, 5, none⟩ = false
theorem Br.lt {w : World} {q : Nat} {s : Int} {k : Bool} {n lo hi p : Int} (h : Br w q s k n lo hi p) : q < w.heap.size := World.block_lt_of_cell? w _ h.c0
theorem Br.keep {w w' : World} {q : Nat} {s : Int} {k : Bool} {n lo hi p : Int} (h : Br w q s k n lo hi p) (hb : Below w.heap.size w w') : Br w' q s k n lo hi p :=
  ⟨((bcell hb).1 q 0 h.lt).trans h.c0, ((bcell hb).1 q 1 h.lt).trans h.c1, ((bcell hb).1 q 2 h.lt).trans h.c2, ((bcell hb).1 q 3 h.lt).trans h.c3, ((bcell hb).1 q 4 h.lt).trans h.c4, ((bcell hb).1 q 5 h.lt).trans h.c5⟩
theorem Fz.keep {w w' : World} {q : Nat} (h : Fz w q) (hq : q < w.heap.size) (hb : Below w.heap.size w w') : Fz w' q :=
  ⟨((bcell hb).2 q 0 hq).trans h.f0, ((bcell hb).2 q 1 hq).trans h.f1, ((bcell hb).2 q 2 hq).trans h.f2, ((bcell hb).2 q 3 hq).trans h.f3, ((bcell hb).2 q 4 hq).trans h.f4, ((bcell hb).2 q 5 hq).trans h.f5⟩
theorem Br.new (w : World) (s : Int) (k : Bool) (n lo hi p : Int) (t : TypeId) : Br (w.alloc (.cells #[.int .i64 s, .bool k, .int .i64 n, .int .i64 lo, .int .i64 hi, .int .i64 p] t)) w.heap.size s k n lo hi p := ⟨by simp, by simp, by simp, by simp, by simp, by simp⟩
theorem Fz.new (w : World) (s : Int) (k : Bool) (n lo hi p : Int) (t : TypeId) : Fz (w.alloc (.cells #[.int .i64 s, .bool k, .int .i64 n, .int .i64 lo, .int .i64 hi, .int .i64 p] t)) w.heap.size := ⟨by simp [go_sem], by simp [go_sem], by simp [go_sem], by simp [go_sem], by simp [go_sem], by simp [go_sem]⟩
/-- a Value is written -/
abbrev st6 (w : World) (q : Nat) (a b c d e f : Value) : World := (((((w.setCell ⟨q, 0, none⟩ a).setCell ⟨q, 1, none⟩ b).setCell ⟨q, 2, none⟩ c).setCell ⟨q, 3, none⟩ d).setCell ⟨q, 4, none⟩ e).setCell ⟨q, 5, none⟩ f
theorem st6_cell (w : World) (q r o : Nat) (a b c d e f : Value) (h : r ≠ q) : (st6 w q a b c d e f).cell? ⟨r, o, none⟩ = w.cell? ⟨r, o, none⟩ := by
  have ne : ∀ j : Nat, (⟨q, j, none⟩ : Addr) ≠ ⟨r, o, none⟩ := fun j t => h (congrArg Addr.block t).symm
  unfold st6
  rw [World.cell?_setCell_other _ _ _ _ (ne 5), World.cell?_setCell_other _ _ _ _ (ne 4), World.cell?_setCell_other _ _ _ _ (ne 3), World.cell?_setCell_other _ _ _ _ (ne 2), World.cell?_setCell_other _ _ _ _ (ne 1), World.cell?_setCell_other _ _ _ _ (ne 0)]
theorem st6_frozen (w : World) (q r o : Nat) (a b c d e f : Value) : (st6 w q a b c d e f).frozen? ⟨r, o, none⟩ = w.frozen? ⟨r, o, none⟩ := by
  unfold st6
  simp
theorem Br.put {w : World} {q r : Nat} {s : Int} {k : Bool} {n lo hi p : Int} (h : Br w r s k n lo hi p) (hq : r ≠ q) (a b c d e f : Value) : Br (st6 w q a b c d e f) r s k n lo hi p :=
  ⟨(st6_cell w q r 0 a b c d e f hq).trans h.c0, (st6_cell w q r 1 a b c d e f hq).trans h.c1, (st6_cell w q r 2 a b c d e f hq).trans h.c2, (st6_cell w q r 3 a b c d e f hq).trans h.c3, (st6_cell w q r 4 a b c d e f hq).trans h.c4, (st6_cell w q r 5 a b c d e f hq).trans h.c5⟩
theorem Fz.put {w : World} {q r : Nat} (h : Fz w r) (a b c d e f : Value) : Fz (st6 w q a b c d e f) r :=
  ⟨(st6_frozen w q r 0 a b c d e f).trans h.f0, (st6_frozen w q r 1 a b c d e f).trans h.f1, (st6_frozen w q r 2 a b c d e f).trans h.f2, (st6_frozen w q r 3 a b c d e f).trans h.f3, (st6_frozen w q r 4 a b c d e f).trans h.f4, (st6_frozen w q r 5 a b c d e f).trans h.f5⟩
theorem Br.wrote {w : World} {q : Nat} {s : Int} {k : Bool} {n lo hi p : Int} (h : Br w q s k n lo hi p) (s' : Int) (k' : Bool) (n' lo' hi' p' : Int) : Br (st6 w q (.int .i64 s') (.bool k') (.int .i64 n') (.int .i64 lo') (.int .i64 hi') (.int .i64 p')) q s' k' n' lo' hi' p' := by
  have c0 := h.c0
  have c1 := h.c1
  have c2 := h.c2
  have c3 := h.c3
  have c4 := h.c4
  have c5 := h.c5
  unfold st6
  refine ⟨?_, ?_, ?_, ?_, ?_, ?_⟩ <;> simp [go_sem, *]
theorem st6_size (w : World) (q : Nat) (a b c d e f : Value) : (st6 w q a b c d e f).heap.size = w.heap.size := by unfold st6; simp
theorem st6_below {N : Nat} {w0 w : World} (h : Below N w0 w) (q : Nat) (hq : N ≤ q) (a b c d e f : Value) : Below N w0 (st6 w q a b c d e f) :=
  (((((h.setCell (p := ⟨q, 0, none⟩) hq a).setCell (p := ⟨q, 1, none⟩) hq b).setCell (p := ⟨q, 2, none⟩) hq c).setCell (p := ⟨q, 3, none⟩) hq d).setCell (p := ⟨q, 4, none⟩) hq e).setCell (p := ⟨q, 5, none⟩) hq f
theorem lift {S : World → Prop} {f : Nat} {args : Array Value} {w1 : World} {r : Value} (h : Calls Try.prog f args w1 fun e w' => e = .returned r ∧ Below w1.heap.size w1 w') (hS : S w1) (hcl : ∀ a b, S a → Below a.heap.size a b → S b) : Calls Try.prog f args w1 fun e w' => e = .returned r ∧ S w' :=
  h.mono fun _ _ ⟨h1, h2⟩ => ⟨h1, hcl _ _ hS h2⟩
theorem New1.bel {w w' : World} (h : New1 w w') : Below w.heap.size w w' := by obtain ⟨o, rfl⟩ := h; exact (Below.refl _ _).alloc (Nat.le_refl _) _
theorem New2.bel {w w' : World} (h : New2 w w') : Below w.heap.size w w' := by obtain ⟨o, p, rfl⟩ := h; exact ((Below.refl _ _).alloc (Nat.le_refl _) _).alloc (by simp) _
theorem New3.bel {w w' : World} (h : New3 w w') : Below w.heap.size w w' := by obtain ⟨o, p, q, rfl⟩ := h; exact (by repeat (first | exact Below.refl _ _ | (refine Below.drew ?_) | (refine below_drewN ?_ _) | (refine Below.setCell ?_ (by first | omega | (simp; done) | (simp; omega)) _) | (refine Below.alloc ?_ (by first | omega | (simp; done) | (simp; omega)) _) | (refine Below.trans ?_ (Below.mono (by assumption) (by first | omega | (simp; done) | (simp; omega))))))
theorem New4.bel {w w' : World} (h : New4 w w') : Below w.heap.size w w' := by obtain ⟨o, p, q, r, rfl⟩ := h; exact (by repeat (first | exact Below.refl _ _ | (refine Below.drew ?_) | (refine below_drewN ?_ _) | (refine Below.setCell ?_ (by first | omega | (simp; done) | (simp; omega)) _) | (refine Below.alloc ?_ (by first | omega | (simp; done) | (simp; omega)) _) | (refine Below.trans ?_ (Below.mono (by assumption) (by first | omega | (simp; done) | (simp; omega))))))
theorem New5.bel {w w' : World} (h : New5 w w') : Below w.heap.size w w' := by obtain ⟨o, p, q, r, s, rfl⟩ := h; exact (by repeat (first | exact Below.refl _ _ | (refine Below.drew ?_) | (refine below_drewN ?_ _) | (refine Below.setCell ?_ (by first | omega | (simp; done) | (simp; omega)) _) | (refine Below.alloc ?_ (by first | omega | (simp; done) | (simp; omega)) _) | (refine Below.trans ?_ (Below.mono (by assumption) (by first | omega | (simp; done) | (simp; omega))))))
theorem bel0 {f : Nat} {args : Array Value} {w1 : World} {r : Value} (h : Calls Try.prog f args w1 fun e w' => e = .returned r ∧ w' = w1) : Calls Try.prog f args w1 fun e w' => e = .returned r ∧ Below w1.heap.size w1 w' := h.mono fun _ _ ⟨h1, h2⟩ => ⟨h1, by rw [h2]; exact Below.refl _ _⟩
theorem bel1 {f : Nat} {args : Array Value} {w1 : World} {r : Value} (h : Calls Try.prog f args w1 fun e w' => e = .returned r ∧ New1 w1 w') : Calls Try.prog f args w1 fun e w' => e = .returned r ∧ Below w1.heap.size w1 w' := h.mono fun _ _ ⟨h1, h2⟩ => ⟨h1, h2.bel⟩
theorem bel2 {f : Nat} {args : Array Value} {w1 : World} {r : Value} (h : Calls Try.prog f args w1 fun e w' => e = .returned r ∧ New2 w1 w') : Calls Try.prog f args w1 fun e w' => e = .returned r ∧ Below w1.heap.size w1 w' := h.mono fun _ _ ⟨h1, h2⟩ => ⟨h1, h2.bel⟩
theorem bel3 {f : Nat} {args : Array Value} {w1 : World} {r : Value} (h : Calls Try.prog f args w1 fun e w' => e = .returned r ∧ New3 w1 w') : Calls Try.prog f args w1 fun e w' => e = .returned r ∧ Below w1.heap.size w1 w' := h.mono fun _ _ ⟨h1, h2⟩ => ⟨h1, h2.bel⟩
theorem bel4 {f : Nat} {args : Array Value} {w1 : World} {r : Value} (h : Calls Try.prog f args w1 fun e w' => e = .returned r ∧ New4 w1 w') : Calls Try.prog f args w1 fun e w' => e = .returned r ∧ Below w1.heap.size w1 w' := h.mono fun _ _ ⟨h1, h2⟩ => ⟨h1, h2.bel⟩
theorem bel5 {f : Nat} {args : Array Value} {w1 : World} {r : Value} (h : Calls Try.prog f args w1 fun e w' => e = .returned r ∧ New5 w1 w') : Calls Try.prog f args w1 fun e w' => e = .returned r ∧ Below w1.heap.size w1 w' := h.mono fun _ _ ⟨h1, h2⟩ => ⟨h1, h2.bel⟩
theorem lp_up (x : BitVec 3) (h : x &&& 3 = x) : lp (up x) = x := by unfold lp; rw [low_up]; exact h
theorem sjoinB (x y : BitVec 3) (w : World) : Calls Try.prog 88 #[.int .i64 (up x), .int .i64 (up y)] w fun e w' => e = .returned (.int .i64 (up (x ||| y))) ∧ Below w.heap.size w w' := by
  have h := bel0 (sjoin_any (up x) (up y) w)
  rw [low_up, low_up] at h
  exact h
theorem swithinB (x y : BitVec 3) (w : World) : Calls Try.prog 95 #[.int .i64 (up x), .int .i64 (up y)] w fun e w' => e = .returned (.bool (withinS x y)) ∧ Below w.heap.size w w' := by
  have h := bel0 (swithin_any (up x) (up y) w)
  rw [low_up, low_up] at h
  exact h
theorem pjoinB (x y : BitVec 3) (w : World) (hx : x &&& 3 = x) (hy : y &&& 3 = y) : Calls Try.prog 91 #[.int .i64 (up x), .int .i64 (up y)] w fun e w' => e = .returned (.int .i64 (up (x ||| y))) ∧ Below w.heap.size w w' := by
  have h := bel0 (pjoin_any (up x) (up y) w)
  rw [lp_up x hx, lp_up y hy] at h
  exact h
theorem pwithinB (x y : BitVec 3) (w : World) (hx : x &&& 3 = x) (hy : y &&& 3 = y) : Calls Try.prog 98 #[.int .i64 (up x), .int .i64 (up y)] w fun e w' => e = .returned (.bool (withinS x y)) ∧ Below w.heap.size w w' := by
  have h := bel0 (pwithin_any (up x) (up y) w)
  rw [lp_up x hx, lp_up y hy] at h
  exact h
end Go.Proofs.Ytmhicllhjiglkaa
namespace Go.Proofs.Ytmhicllhjiglkaa
open Go.RowKit
/-- a slice of ints can be read -/
def Ri (w : World) (a : Option Addr) (xs : List Int) : Prop := ∀ i x, xs[i]? = some x → ∃ b o, a = some ⟨b, o, none⟩ ∧ w.cell? ⟨b, o + i, none⟩ = some (.int .i64 x)
theorem Ri.nil (w : World) (a : Option Addr) : Ri w a [] := fun i x h => by simp at h
theorem Ri.head {w : World} {a : Option Addr} {y : Int} {t : List Int} (h : Ri w a (y :: t)) : ∃ b o, a = some ⟨b, o, none⟩ ∧ w.cell? ⟨b, o, none⟩ = some (.int .i64 y) ∧ Ri w (some ⟨b, o + 1, none⟩) t := by
  obtain ⟨b, o, rfl, hc⟩ := h 0 y rfl
  refine ⟨b, o, rfl, hc, fun i x hx => ?_⟩
  obtain ⟨b2, o2, e, hc2⟩ := h (i + 1) x hx
  obtain ⟨rfl, rfl⟩ : b = b2 ∧ o = o2 := by simpa using e
  exact ⟨b, o + 1, rfl, by rw [Nat.add_assoc, Nat.add_comm 1 i]; exact hc2⟩
theorem Ri.at {w : World} {a : Option Addr} {xs : List Int} (h : Ri w a xs) {i : Nat} (hi : i < xs.length) : ∃ b o, a = some ⟨b, o, none⟩ ∧ w.cell? ⟨b, o + i, none⟩ = some (.int .i64 (xs.getD i 0)) := by
  obtain ⟨b, o, e, hc⟩ := h i (xs.getD i 0) (by simp [hi])
  exact ⟨b, o, e, hc⟩
theorem Ri.keep {w w' : World} {a : Option Addr} {xs : List Int} {B : Nat} (h : Ri w a xs) (hb : Below B w w') (hB : ∀ x, a = some x → x.block < B) : Ri w' a xs := fun i x hx => by
  obtain ⟨b, o, rfl, hc⟩ := h i x hx
  exact ⟨b, o, rfl, (hb.cell (p := ⟨b, o + i, none⟩) (hB ⟨b, o, none⟩ rfl)).trans hc⟩
theorem Ri.step {w : World} {b o : Nat} {t : List Int} {c : Nat} (ht : Ri w (some ⟨b, o + 1, none⟩) t) (h : t.length + 1 ≤ c) : Ri w (if c = 1 then some ⟨b, o, none⟩ else some ⟨b, o + 1, none⟩) t := by
  split
  · rename_i e
    have : t = [] := List.eq_nil_of_length_eq_zero (by omega)
    subst this; exact Ri.nil _ _
  · exact ht
theorem Ri.tail {w : World} {b o : Nat} {y : Int} {t : List Int} (h : Ri w (some ⟨b, o, none⟩) (y :: t)) : Ri w (some ⟨b, o + 1, none⟩) t := by
  obtain ⟨b2, o2, e, _, h2⟩ := h.head
  obtain ⟨rfl, rfl⟩ : b = b2 ∧ o = o2 := by simpa using e
  exact h2
/-- a part of a slice: what reads the one reads the other -/
def Su (a : Option Addr) (xs : List Int) (a' : Option Addr) (ys : List Int) : Prop := ∀ w, Ri w a xs → Ri w a' ys
theorem Ri.keep' {w w' : World} {a : Option Addr} {xs : List Int} (h : Ri w a xs) (hb : Below w.heap.size w w') : Ri w' a xs := fun i x hx => by
  obtain ⟨b, o, rfl, hc⟩ := h i x hx
  exact ⟨b, o, rfl, (hb.cell (p := ⟨b, o + i, none⟩) (World.block_lt_of_cell? w _ hc)).trans hc⟩
theorem Ri.drewN {w : World} {a : Option Addr} {xs : List Int} (h : Ri w a xs) (n : Nat) : Ri (w.drewN n) a xs := h
def lenOf : Value → Nat
  | .slice _ n _ => n
  | _ => 0
end Go.Proofs.Ytmhicllhjiglkaa
namespace Go.Proofs.Ytmhicllhjiglkaa
open Go.RowKit
set_option maxRecDepth 100000 in
set_option maxHeartbeats 1000000 in
theorem from_su (xs : List Int) (a : Option Addr) (c : Nat) (x : Int) (w : World) (hr : Ri w a xs) (hc : xs.length ≤ c) :
    Calls Try.prog 99 #[.slice a xs.length c, .int .i64 x] w fun e w' => w' = w ∧ ∃ a' c', e = .returned (.slice a' (xs.dropWhile (fun y => decide (y < x))).length c') ∧ Su a xs a' (xs.dropWhile (fun y => decide (y < x))) ∧ (xs.dropWhile (fun y => decide (y < x))).length ≤ c' ∧ c' ≤ c := by
  have HR : Hid (Ri w a xs) := hr
  clear hr
  go_enter Try.func99, Try.ntmps99
  go_wp2_with fail
  go_loop [0] (fun s0 => ∃ (a' : Option Addr) (ys : List Int) (c' : Nat), s0 = .slice a' ys.length c' ∧ Hid (Su a xs a' ys) ∧ ys.length ≤ c' ∧ c' ≤ c ∧ Hid (ys.dropWhile (fun y => decide (y < x)) = xs.dropWhile (fun y => decide (y < x)))) (fun s0 => lenOf s0)
  case atStart => exact ⟨a, xs, c, rfl, fun _ h => h, hc, Nat.le_refl _, rfl⟩
  case round =>
    obtain ⟨a', ys, c', rfl, h1, h2, h3, h4⟩ := hrel
    cases ys with
    | nil =>
      go_wp2
      go_ret
      refine ⟨rfl, a', c', ?_, ?_⟩
      · rw [← h4.out]; rfl
      · rw [← h4.out]; exact ⟨fun _ _ => Ri.nil _ _, h2, h3⟩
    | cons y t =>
      obtain ⟨b, o, rfl, hcell, ht⟩ := (h1.out _ HR.out).head
      have h2' : t.length + 1 ≤ c' := by simpa using h2
      by_cases hy : y < x
      · go_wp2
        refine ⟨⟨_, t, c' - 1, rfl, fun w2 h5 => (Ri.tail (h1.out w2 h5)).step h2', by omega, by omega, ?_⟩, by simp [lenOf]⟩
        have := h4.out
        rw [List.dropWhile_cons_of_pos (by simpa using hy)] at this
        exact this
      · go_wp2
        go_ret
        have := h4.out
        rw [List.dropWhile_cons_of_neg (by simpa using hy)] at this
        rw [← this]
        exact ⟨rfl, _, c', rfl, h1.out, h2, h3⟩
theorem bfrom_any (xs : List Int) (a : Option Addr) (c : Nat) (x : Int) (w : World) (hr : Ri w a xs) (hc : xs.length ≤ c) :
    Calls Try.prog 99 #[.slice a xs.length c, .int .i64 x] w fun e w' => w' = w ∧ ∃ a' c', e = .returned (.slice a' (xs.dropWhile (fun y => decide (y < x))).length c') ∧ Ri w a' (xs.dropWhile (fun y => decide (y < x))) ∧ (xs.dropWhile (fun y => decide (y < x))).length ≤ c' ∧ c' ≤ c :=
  (from_su xs a c x w hr hc).mono fun _ _ ⟨h1, a', c', h2, h3, h4⟩ => ⟨h1, a', c', h2, h3 w hr, h4⟩
/-- is all of the one in the other? -/
def wiL : List Int → List Int → Bool
  | [], _ => true
  | x :: t, b => match b.dropWhile (fun y => decide (y < x)) with
    | [] => false
    | y :: r => if y = x then wiL t (y :: r) else false
set_option maxRecDepth 100000 in
set_option maxHeartbeats 2000000 in
theorem bwithin_any (xs ys : List Int) (a b : Option Addr) (c d : Nat) (w : World) (hr : Ri w a xs) (hs : Ri w b ys) (hc : xs.length ≤ 9223372036854775807) (hd : ys.length ≤ d) :
    Calls Try.prog 50 #[.slice a xs.length c, .slice b ys.length d] w fun e w' => w' = w ∧ e = .returned (.bool (wiL xs ys)) := by
  have HR : Hid (Ri w a xs) := hr
  have HS : Hid (Ri w b ys) := hs
  clear hr hs
  go_enter Try.func50, Try.ntmps50
  go_wp2_with fail
  go_loop [1, 9] (fun s1 s9 => ∃ (b' : Option Addr) (zs : List Int) (d' k : Nat), s1 = .slice b' zs.length d' ∧ s9 = .int .i64 k ∧ k ≤ xs.length ∧ Hid (Ri w b' zs) ∧ zs.length ≤ d' ∧ d' ≤ d ∧ Hid (wiL (xs.drop k) zs = wiL xs ys)) (fun _ s9 => xs.length - (intOf s9).toNat)
  case atStart => exact ⟨b, ys, d, 0, rfl, rfl, Nat.zero_le _, HS, hd, Nat.le_refl _, by unfold Hid; simp⟩
  case round =>
    obtain ⟨b', zs, d', k, rfl, rfl, hk, h1, h2, h3, h4⟩ := hrel
    by_cases hk2 : k = xs.length
    · subst hk2
      go_wp2
      go_ret
      refine ⟨rfl, ?_⟩
      rw [← h4.out]; simp [wiL]
    · have hlt : k < xs.length := by omega
      have hlt' : (k : Int) < xs.length := by omega
      obtain ⟨ab, ao, rfl, hcell⟩ := HR.out.at hlt
      have HD : Hid (xs.drop k = xs.getD k 0 :: xs.drop (k + 1)) := by
        unfold Hid
        rw [List.drop_eq_getElem_cons hlt]; simp [hlt]
      generalize xs.getD k 0 = x at *
      have HF := fun w1 h => bfrom_any zs b' d' x w1 h h2
      go_upto_region 5 with (go_at_call 99; refine (HF _ h1.out).mono ?_; rintro e w' ⟨hw, b2, d2, rfl, q1, q2, q3⟩; obtain rfl := hw.symm)
      clear HF
      have HW : Hid (wiL (xs.drop k) zs = match zs.dropWhile (fun y => decide (y < x)) with | [] => false | y :: r => if y = x then wiL (xs.drop (k + 1)) (y :: r) else false) := by
        unfold Hid; rw [HD.out]; rfl
      rw [h4.out] at HW
      generalize zs.dropWhile (fun y => decide (y < x)) = us at *
      cases us with
      | nil =>
        go_wp2
        go_ret
        exact ⟨rfl, by rw [HW.out]; rfl⟩
      | cons y r =>
        obtain ⟨b3, o3, rfl, hcell2, -⟩ := q1.head
        by_cases hy : y = x
        · subst hy
          have HW2 : Hid (wiL xs ys = wiL (xs.drop (k + 1)) (y :: r)) := hide (by have h5 := HW.out; simpa using h5)
          have hz : ((r.length : Int) + 1 == 0) = false := beq_eq_false_iff_ne.2 (by omega)
          go_wp2
          refine ⟨⟨_, y :: r, d2, k + 1, rfl, by simp, by omega, q1, q2, by omega, HW2.out.symm⟩, by simp [intOf]; omega⟩
        · have HW2 : Hid (wiL xs ys = false) := hide (by have h5 := HW.out; simpa [hy] using h5)
          have hz : ((r.length : Int) + 1 == 0) = false := beq_eq_false_iff_ne.2 (by omega)
          have hb : (y != x) = true := by rw [bne_iff_ne]; exact hy
          clear hy
          go_wp2
          go_ret
          exact ⟨rfl, by rw [HW2.out]; rfl⟩
end Go.Proofs.Ytmhicllhjiglkaa
namespace Go.Proofs.Ytmhicllhjiglkaa
open Go.RowKit
/-- is a number among them? -/
def hasL (xs : List Int) (x : Int) : Bool := xs.any (fun y => y == x)
set_option maxRecDepth 100000 in
set_option maxHeartbeats 2000000 in
theorem brhas_any (xs : List Int) (a : Option Addr) (c : Nat) (x : Int) (w : World) (hr : Ri w a xs) (hc : xs.length ≤ 9223372036854775807) :
    Calls Try.prog 102 #[.slice a xs.length c, .int .i64 x] w fun e w' => w' = w ∧ e = .returned (.bool (hasL xs x)) := by
  have HR : Hid (Ri w a xs) := hr
  clear hr
  go_enter Try.func102, Try.ntmps102
  go_wp2_with fail
  go_loop [5] (fun s5 => ∃ k : Nat, s5 = .int .i64 k ∧ k ≤ xs.length ∧ Hid (hasL (xs.drop k) x = hasL xs x)) (fun s5 => xs.length - (intOf s5).toNat)
  case atStart => exact ⟨0, rfl, Nat.zero_le _, rfl⟩
  case round =>
    obtain ⟨k, rfl, hk, h4⟩ := hrel
    by_cases hk2 : k = xs.length
    · subst hk2
      go_wp2
      go_ret
      refine ⟨rfl, ?_⟩
      rw [← h4.out]; simp [hasL]
    · have hlt : k < xs.length := by omega
      have hlt' : (k : Int) < xs.length := by omega
      obtain ⟨ab, ao, rfl, hcell⟩ := HR.out.at hlt
      have HD : Hid (xs.drop k = xs.getD k 0 :: xs.drop (k + 1)) := by
        unfold Hid
        rw [List.drop_eq_getElem_cons hlt]; simp [hlt]
      generalize xs.getD k 0 = y at *
      have HW : Hid (hasL xs x = ((y == x) || hasL (xs.drop (k + 1)) x)) := by
        unfold Hid; rw [← h4.out, HD.out]; rfl
      by_cases hy : y = x
      · subst hy
        have HW2 : Hid (hasL xs y = true) := hide (by have h5 := HW.out; simpa using h5)
        go_wp2
        go_ret
        exact ⟨rfl, by rw [HW2.out]; rfl⟩
      · have hb : (y == x) = false := beq_eq_false_iff_ne.2 hy
        have HW2 : Hid (hasL xs x = hasL (xs.drop (k + 1)) x) := hide (by rw [HW.out, hb]; rfl)
        clear hy
        go_wp2
        exact ⟨⟨k + 1, by simp, by omega, HW2.out.symm⟩, by simp [intOf]; omega⟩
/-- are both lists the same? -/
def sameL (xs ys : List Int) : Bool := decide (xs = ys)
theorem take_same (xs ys : List Int) (k : Nat) (hl : xs.length = ys.length) (hk : k < xs.length) (h : xs.take k = ys.take k) : (xs.getD k 0 = ys.getD k 0 → xs.take (k + 1) = ys.take (k + 1)) ∧ (xs.getD k 0 ≠ ys.getD k 0 → sameL xs ys = false) := by
  constructor
  · intro e
    rw [List.take_succ_eq_append_getElem hk, List.take_succ_eq_append_getElem (by omega), h]
    congr 1
    have e1 : xs.getD k 0 = xs[k] := by simp [hk]
    have e2 : ys.getD k 0 = ys[k] := by simp [show k < ys.length by omega]
    rw [← e1, ← e2, e]
  · intro e
    unfold sameL
    rw [decide_eq_false_iff_not]
    intro t; subst t; exact e rfl
set_option maxRecDepth 100000 in
set_option maxHeartbeats 2000000 in
theorem brsame_any (xs ys : List Int) (a b : Option Addr) (c d : Nat) (w : World) (hr : Ri w a xs) (hs : Ri w b ys) (hc : xs.length ≤ 9223372036854775807) (_hd : ys.length ≤ 9223372036854775807) :
    Calls Try.prog 56 #[.slice a xs.length c, .slice b ys.length d] w fun e w' => (∃ n, w' = w.drewN n) ∧ e = .returned (.bool (sameL xs ys)) := by
  have HR : Hid (Ri w a xs) := hr
  have HS : Hid (Ri w b ys) := hs
  clear hr hs
  go_enter Try.func56, Try.ntmps56
  by_cases hl : xs.length = ys.length
  · have hl2 : ((xs.length : Int) != ys.length) = false := by simp [hl]
    go_wp2_with fail
    go_loopw [5] (fun sk wr => ∃ k n : Nat, wr = w.drewN n ∧ sk = .int .i64 k ∧ k ≤ xs.length ∧ Hid (xs.take k = ys.take k)) (fun sk _ => xs.length - (intOf sk).toNat)
    case atStart => exact ⟨0, 0, rfl, rfl, Nat.zero_le _, rfl⟩
    case round =>
      obtain ⟨k, n, rfl, rfl, hk, h4⟩ := hrel
      by_cases hk2 : k = xs.length
      · subst hk2
        go_wp2
        go_ret
        refine ⟨⟨n, rfl⟩, ?_⟩
        have e : xs = ys := by have t := h4.out; rw [List.take_of_length_le (Nat.le_refl _), List.take_of_length_le (by omega)] at t; exact t
        rw [show sameL xs ys = true from decide_eq_true e]; rfl
      · have hlt : k < xs.length := by omega
        have hlt' : (k : Int) < xs.length := by omega
        have hlt2 : (k : Int) < ys.length := by omega
        obtain ⟨ab, ao, rfl, hcell⟩ := HR.out.at hlt
        obtain ⟨bb, bo, rfl, hcell2⟩ := HS.out.at (show k < ys.length by omega)
        have ht := take_same xs ys k hl hlt h4.out
        generalize xs.getD k 0 = x at *
        generalize ys.getD k 0 = y at *
        by_cases hy : x = y
        · have HT := hide (ht.1 hy)
          have hb : (x != y) = false := by simp [hy]
          clear ht hy
          go_wp2
          go_quiet (fail)
          go_wp2
          exact ⟨⟨k + 1, n + nq, rfl, by simp, by omega, HT⟩, by simp [intOf]; omega⟩
        · have HT := hide (ht.2 hy)
          have hb : (x != y) = true := by rw [bne_iff_ne]; exact hy
          clear ht hy
          go_wp2
          go_quiet (fail)
          go_wp2
          go_ret
          exact ⟨⟨n + nq, by simp⟩, by rw [show sameL xs ys = false from HT.out]; rfl⟩
  · have hl2 : ((xs.length : Int) != ys.length) = true := by rw [bne_iff_ne]; omega
    go_wp2
    go_ret
    exact ⟨⟨0, rfl⟩, by congr 2; unfold sameL; simp; exact fun t => hl (by rw [t])⟩
set_option maxRecDepth 100000 in
set_option maxHeartbeats 2000000 in
theorem bequal_any (xs ys : List Int) (a b : Option Addr) (c d : Nat) (w : World) (hr : Ri w a xs) (hs : Ri w b ys) (hc : xs.length ≤ 9223372036854775807) (_hd : ys.length ≤ 9223372036854775807) :
    Calls Try.prog 103 #[.slice a xs.length c, .slice b ys.length d] w fun e w' => (∃ n, w' = w.drewN n) ∧ e = .returned (.bool (sameL xs ys)) := by
  have HR : Hid (Ri w a xs) := hr
  have HS : Hid (Ri w b ys) := hs
  clear hr hs
  go_enter Try.func103, Try.ntmps103
  by_cases hl : xs.length = ys.length
  · have hl2 : ((xs.length : Int) != ys.length) = false := by simp [hl]
    go_wp2_with fail
    go_loopw [13] (fun sk wr => ∃ k n : Nat, wr = w.drewN n ∧ sk = .int .i64 k ∧ k ≤ xs.length ∧ Hid (xs.take k = ys.take k)) (fun sk _ => xs.length - (intOf sk).toNat)
    case atStart => exact ⟨0, 0, rfl, rfl, Nat.zero_le _, rfl⟩
    case round =>
      obtain ⟨k, n, rfl, rfl, hk, h4⟩ := hrel
      by_cases hk2 : k = xs.length
      · subst hk2
        go_wp2
        go_ret
        refine ⟨⟨n, rfl⟩, ?_⟩
        have e : xs = ys := by have t := h4.out; rw [List.take_of_length_le (Nat.le_refl _), List.take_of_length_le (by omega)] at t; exact t
        rw [show sameL xs ys = true from decide_eq_true e]; rfl
      · have hlt : k < xs.length := by omega
        have hlt' : (k : Int) < xs.length := by omega
        have hlt2 : (k : Int) < ys.length := by omega
        obtain ⟨ab, ao, rfl, hcell⟩ := HR.out.at hlt
        obtain ⟨bb, bo, rfl, hcell2⟩ := HS.out.at (show k < ys.length by omega)
        have ht := take_same xs ys k hl hlt h4.out
        generalize xs.getD k 0 = x at *
        generalize ys.getD k 0 = y at *
        by_cases hy : x = y
        · have HT := hide (ht.1 hy)
          have hb : (x != y) = false := by simp [hy]
          clear ht hy
          go_wp2
          go_quiet (fail)
          go_wp2
          exact ⟨⟨k + 1, n + nq, rfl, by simp, by omega, HT⟩, by simp [intOf]; omega⟩
        · have HT := hide (ht.2 hy)
          have hb : (x != y) = true := by rw [bne_iff_ne]; exact hy
          clear ht hy
          go_wp2
          go_quiet (fail)
          go_wp2
          go_ret
          exact ⟨⟨n + nq, by simp⟩, by rw [show sameL xs ys = false from HT.out]; rfl⟩
  · have hl2 : ((xs.length : Int) != ys.length) = true := by rw [bne_iff_ne]; omega
    go_wp2
    go_ret
    exact ⟨⟨0, rfl⟩, by congr 2; unfold sameL; simp; exact fun t => hl (by rw [t])⟩
set_option maxRecDepth 100000 in
set_option maxHeartbeats 2000000 in
theorem bsame_any (xs ys : List Int) (a b : Option Addr) (c d : Nat) (w : World) (hr : Ri w a xs) (hs : Ri w b ys) (hc : xs.length ≤ 9223372036854775807) (hd : ys.length ≤ 9223372036854775807) :
    Calls Try.prog 55 #[.slice a xs.length c, .slice b ys.length d] w fun e w' => (∃ n, w' = w.drewN n) ∧ e = .returned (.bool (sameL xs ys)) := by
  have c1 := bequal_any xs ys a b c d w hr hs hc hd
  clear hr hs
  go_enter Try.func55, Try.ntmps55
  go_wp2_with (go_at_call 103; refine c1.mono ?_; rintro e w' ⟨⟨n, rfl⟩, rfl⟩)
  go_ret
  exact ⟨⟨n, rfl⟩, rfl⟩
end Go.Proofs.Ytmhicllhjiglkaa
namespace Go.Proofs.Ytmhicllhjiglkaa
open Go.RowKit
theorem bnan_any (x : Int) (w : World) : Calls Try.prog 139 #[.int .i64 x] w fun e w' => w' = w ∧ e = .returned (.bool false) := by
  go_enter Try.func139, Try.ntmps139
  go_wp2
  go_ret
  exact ⟨rfl, by simp⟩
theorem bsnan_any (x : Int) (w : World) : Calls Try.prog 138 #[.int .i64 x] w fun e w' => w' = w ∧ e = .returned (.bool false) := by
  go_enter Try.func138, Try.ntmps138
  go_wp2
  go_ret
  exact ⟨rfl, by simp⟩
theorem bless_any (x y : Int) (w : World) : Calls Try.prog 137 #[.int .i64 x, .int .i64 y] w fun e w' => w' = w ∧ e = .returned (.bool (decide (x < y))) := by
  go_enter Try.func137, Try.ntmps137
  go_wp2_with (go_at_call 139; refine (bnan_any _ _).mono ?_; rintro e w' ⟨h, rfl⟩; obtain rfl := h.symm)
  go_ret
  exact ⟨rfl, by simp⟩
/-- they rise -/
def Up (xs : List Int) : Prop := ∀ i j, i < j → j < xs.length → xs.getD i 0 < xs.getD j 0
theorem has_at (xs : List Int) (x : Int) (m : Nat) (h1 : ∀ k, k < m → xs.getD k 0 < x) (h2 : ∀ k, m ≤ k → k < xs.length → x ≤ xs.getD k 0) (hu : Up xs) (hm : m ≤ xs.length) :
    hasL xs x = (decide (m < xs.length) && (xs.getD m 0 == x)) := by
  unfold hasL
  by_cases h : m < xs.length ∧ xs.getD m 0 = x
  · rw [show decide (m < xs.length) = true from decide_eq_true h.1, show (xs.getD m 0 == x) = true from by simpa using h.2]
    show xs.any (fun y => y == x) = true
    rw [List.any_eq_true]
    exact ⟨xs.getD m 0, by simp [h.1], by simpa using h.2⟩
  · have e : (decide (m < xs.length) && (xs.getD m 0 == x)) = false := by
      by_cases h3 : m < xs.length
      · have : xs.getD m 0 ≠ x := fun t => h ⟨h3, t⟩
        rw [show (xs.getD m 0 == x) = false from by simpa using this]; simp
      · rw [show decide (m < xs.length) = false from decide_eq_false h3]; rfl
    rw [e, List.any_eq_false]
    intro y hy
    obtain ⟨k, hk, rfl⟩ := List.getElem_of_mem hy
    have ek : xs.getD k 0 = xs[k] := by simp [hk]
    intro t
    have t : xs[k] = x := by simpa using t
    rcases Nat.lt_or_ge k m with hkm | hkm
    · have := h1 k hkm; rw [ek, t] at this; omega
    · by_cases hkm2 : k = m
      · subst hkm2; exact h ⟨hk, by rw [ek, t]⟩
      · have := hu m k (by omega) hk
        have g := h2 m (Nat.le_refl _) (by omega)
        rw [ek, t] at this; omega
theorem half_le (i j : Nat) (h : i < j) : i ≤ (i + j) / 2 ∧ (i + j) / 2 < j := by omega
set_option maxRecDepth 100000 in
set_option maxHeartbeats 4000000 in
theorem bsearch_any (xs : List Int) (a : Option Addr) (c : Nat) (x : Int) (w : World) (hr : Ri w a xs) (hc : xs.length ≤ 1000000) (hu : Up xs) :
    Calls Try.prog 123 #[.slice a xs.length c, .int .i64 x] w fun e w' => w' = w ∧ ∃ m : Int, e = .returned (.tuple #[.int .i64 m, .bool (hasL xs x)]) := by
  have HR : Hid (Ri w a xs) := hr
  have HU : Hid (Up xs) := hu
  clear hr hu
  go_enter Try.func123, Try.ntmps123
  go_wp2_with fail
  go_loop [7, 8] (fun si sj => ∃ i j : Nat, si = .int .i64 i ∧ sj = .int .i64 j ∧ i ≤ j ∧ j ≤ xs.length ∧ Hid ((∀ k, k < i → xs.getD k 0 < x) ∧ (∀ k, j ≤ k → k < xs.length → x ≤ xs.getD k 0))) (fun si sj => (intOf sj).toNat - (intOf si).toNat)
  case atStart => exact ⟨0, xs.length, rfl, rfl, Nat.zero_le _, Nat.le_refl _, ⟨fun k h => by omega, fun k h h2 => by omega⟩⟩
  case round =>
    obtain ⟨i, j, rfl, rfl, hij, hj, h4⟩ := hrel
    by_cases hlt : i = j
    · subst hlt
      have HE := hide (has_at xs x i h4.out.1 h4.out.2 HU.out hj)
      by_cases hn : i < xs.length
      · have hn' : (i : Int) < xs.length := by omega
        obtain ⟨ab, ao, rfl, hcell⟩ := HR.out.at hn
        have HE2 := hide (by have := HE.out; rw [show decide (i < xs.length) = true from decide_eq_true hn] at this; simpa using this : hasL xs x = (xs.getD i 0 == x))
        clear HE h4
        generalize xs.getD i 0 = y at *
        by_cases hy : y = x
        · subst hy
          go_wp2_with (go_at_call 138; refine (bsnan_any _ _).mono ?_; rintro e w' ⟨h, rfl⟩; obtain rfl := h.symm)
          go_ret2
          exact ⟨rfl, _, by rw [HE2.out]; simp; rfl⟩
        · have hb : (y == x) = false := beq_eq_false_iff_ne.2 hy
          clear hy
          go_wp2_with (go_at_call 138; refine (bsnan_any _ _).mono ?_; rintro e w' ⟨h, rfl⟩; obtain rfl := h.symm)
          go_ret2
          exact ⟨rfl, _, by rw [HE2.out, hb]; rfl⟩
      · have hn' : ¬ (i : Int) < xs.length := by omega
        have HE2 := hide (by have := HE.out; rw [show decide (i < xs.length) = false from decide_eq_false hn] at this; simpa using this : hasL xs x = false)
        clear HE h4
        go_wp2_with (go_at_call 138; refine (bsnan_any _ _).mono ?_; rintro e w' ⟨h, rfl⟩; obtain rfl := h.symm)
        go_ret2
        exact ⟨rfl, _, by rw [HE2.out]; rfl⟩
    · have hlt2 : (i : Int) < j := by omega
      go_upto_region 5 with fail
      obtain ⟨m, hm, m1, m2⟩ : ∃ m : Nat, ((i : Int) + j) / 2 = m ∧ i ≤ m ∧ m < j := ⟨(i + j) / 2, by omega, by omega, by omega⟩
      rw [hm]
      clear hm
      have hml : m < xs.length := by omega
      have hml2 : (m : Int) < xs.length := by omega
      obtain ⟨ab, ao, rfl, hcell⟩ := HR.out.at hml
      by_cases hy : xs.getD m 0 < x
      · have HT : Hid (∀ k, k < m + 1 → xs.getD k 0 < x) := fun k hk => by
          by_cases e : k = m
          · subst e; exact hy
          · have := HU.out k m (by omega) hml; omega
        have hb : decide (xs.getD m 0 < x) = true := decide_eq_true hy
        clear hy
        generalize xs.getD m 0 = y at *
        go_wp2_with (go_at_call 137; refine (bless_any _ _ _).mono ?_; rintro e w' ⟨h, rfl⟩; obtain rfl := h.symm)
        exact ⟨⟨m + 1, j, by simp, rfl, by omega, hj, ⟨HT.out, h4.out.2⟩⟩, by simp [intOf]; omega⟩
      · have HT : Hid (∀ k, m ≤ k → k < xs.length → x ≤ xs.getD k 0) := fun k hk hk2 => by
          by_cases e : k = m
          · subst e; omega
          · have := HU.out m k (by omega) hk2; omega
        have hb : decide (xs.getD m 0 < x) = false := decide_eq_false hy
        clear hy
        generalize xs.getD m 0 = y at *
        go_wp2_with (go_at_call 137; refine (bless_any _ _ _).mono ?_; rintro e w' ⟨h, rfl⟩; obtain rfl := h.symm)
        exact ⟨⟨i, m, rfl, rfl, m1, by omega, ⟨h4.out.1, HT.out⟩⟩, by simp [intOf]; omega⟩
set_option maxRecDepth 100000 in
set_option maxHeartbeats 2000000 in
theorem bhas_any (xs : List Int) (a : Option Addr) (c : Nat) (x : Int) (w : World) (hr : Ri w a xs) (hc : xs.length ≤ 1000000) (hu : Up xs) :
    Calls Try.prog 74 #[.slice a xs.length c, .int .i64 x] w fun e w' => w' = w ∧ e = .returned (.bool (hasL xs x)) := by
  have c1 := bsearch_any xs a c x w hr hc hu
  clear hr hu
  go_enter Try.func74, Try.ntmps74
  go_wp2_with (go_at_call 123; refine c1.mono ?_; rintro e w' ⟨h, m, rfl⟩; obtain rfl := h.symm)
  go_ret
  exact ⟨rfl, rfl⟩
end Go.Proofs.Ytmhicllhjiglkaa
namespace Go.Proofs.Ytmhicllhjiglkaa
open Go.RowKit
def I64 (ps : List Int) : List Value := ps.map fun n => .int .i64 n
def RowN (w : World) (g : Nat) (ps : List Int) : Prop := ∀ j n, ps[j]? = some n → w.cell? ⟨g, j, none⟩ = some (.int .i64 n)
theorem info3p : (Try.prog.info? 3).map (fun i => (i.zero, i.size, i.bytes)) = some (some (.int .i64 0), 1, 8) := by kernel_rfl
/-- a row of numbers of the call's own, and all else as it was -/
structure St (w0 wr : World) (v : Value) (ps : List Int) : Prop where
  own : wr.ownsRow w0.heap.size 3 1 v ps.length (I64 ps)
  bel : Below w0.heap.size w0 wr
theorem St.slice {w0 wr : World} {v : Value} {ps : List Int} (h : St w0 wr v ps) : ∃ a c, v = .slice a ps.length c := by
  rcases h.own.2 with ⟨rfl, h2⟩ | ⟨g, cap, cur, rfl, _⟩
  · exact ⟨none, 0, by rw [h2]⟩
  · exact ⟨_, _, rfl⟩
theorem St.start (w0 : World) : St w0 w0 (.slice none 0 0) [] := ⟨World.ownsRow_nil _ _ _ _, Below.refl _ _⟩
theorem St.drewN {w0 wr : World} {v : Value} {ps : List Int} (h : St w0 wr v ps) (j : Nat) : St w0 (wr.drewN j) v ps := ⟨h.own, below_drewN h.bel j⟩
theorem St.row {w0 wr : World} {a : Option Addr} {n : Int} {ps : List Int} {c : Nat} (h : St w0 wr (.slice a (ps.length + 1) c) (n :: ps)) : ∃ g, a = some ⟨g, 0, none⟩ ∧ RowN wr g (n :: ps) := by
  rcases h.own.2 with ⟨h1, h2⟩ | ⟨g, cap, cur, h1, h3, h4, h5, h6, h7, h8⟩
  · simp at h2
  · simp only [Value.slice.injEq] at h1
    obtain ⟨rfl, -, rfl⟩ := h1
    refine ⟨g, rfl, fun j m hj => ?_⟩
    have hc := h.own.cells (g := g) rfl j (.int .i64 m) (by unfold I64; rw [List.getElem?_map, hj]; rfl)
    have e : (⟨g, 0, none⟩ : Addr).add j = ⟨g, j, none⟩ := by
      unfold Addr.add
      split
      · rename_i hj0; rw [hj0]
      · simp
    rw [e] at hc
    exact hc
/-- one number more -/
theorem wpList_app1 {ops : Array Oper} {rest : List Oper} {o : Oper} {a : Act} {Q : Exit → Act → World → Prop} (w0 w1 : World) (hgd : o.guard = none) (s x : Operand)
    (ho : o.op = .call { callee := .builtin .append, args := #[s, x], argTypes := #[38, 38] })
    (v : Value) (ps : List Int) (n : Int) (hS : St w0 w1 v ps) (hs : a.eval s = v) (hx : a.eval x = .slice (some ⟨w1.heap.size, 0, none⟩) 1 1) (hl : ps.length ≤ 1000000)
    (h : ∀ a' c' w', St w0 w' (.slice a' (ps.length + 1) c') (ps ++ [n]) → wpList Try.prog ops Q rest (a.put o.dst (.slice a' (ps.length + 1) c')) w') : wpList Try.prog ops Q (o :: rest) a (w1.alloc (.cells #[.int .i64 n] 3)) := by
  obtain ⟨i0, hi, hz0, hz1, hz2⟩ := info_parts info3p
  refine wpList_append_own _ hgd s x 38 ho w0.heap.size 3 i0 (.int .i64 0) 1 8 Try.underlying38 hi hz0 hz1 hz2 rfl (by decide) v ps.length (I64 ps) hs (hS.own.alloc _) ⟨w1.heap.size, 0, none⟩ 1 1 [.int .i64 n] hx rfl ?_ ?_ ?_ ?_ ?_ ?_
  · intro j u hj
    cases j with
    | zero => simp at hj; subst hj; simp [Addr.add]
    | succ j => simp at hj
  · intro u hu; simp at hu; subst hu; rfl
  · unfold maxLen; omega
  · omega
  · have := hS.bel.size; simp; omega
  · intro v' w' hown hgrow _
    have hB := hS.bel.size
    have hT : St w0 w' v' (ps ++ [n]) := by
      refine ⟨?_, ((hS.bel.alloc (by omega) _)).grown hgrow (by simp; omega) (fun k hk => ((hS.own.lt k hk).1))⟩
      have e : I64 (ps ++ [n]) = I64 ps ++ [.int .i64 n] := by simp [I64]
      rw [e]
      simpa using hown
    obtain ⟨a', c', rfl⟩ := hT.slice
    simp only [List.length_append, List.length_cons, List.length_nil, Nat.zero_add] at hT ⊢
    exact h a' c' w' hT
theorem St.ri {w0 wr : World} {a : Option Addr} {n c : Nat} {ps : List Int} (h : St w0 wr (.slice a n c) ps) : Ri wr a ps := by
  obtain ⟨a2, c2, e⟩ := h.slice
  obtain ⟨rfl, rfl, rfl⟩ : a = a2 ∧ n = ps.length ∧ c = c2 := by simpa using e
  intro i x hx
  cases ps with
  | nil => simp at hx
  | cons y t =>
    obtain ⟨g, rfl, hr⟩ := St.row (n := y) (ps := t) h
    exact ⟨g, 0, rfl, by rw [Nat.zero_add]; exact hr i x hx⟩
theorem St.nn {w0 wr : World} {a : Option Addr} {n c : Nat} {ps : List Int} (h : St w0 wr (.slice a n c) ps) : a = none → c = 0 := by
  intro e
  subst e
  rcases h.own.2 with ⟨h1, h2⟩ | ⟨g, cap, cur, h1, _⟩
  · simp only [Value.slice.injEq] at h1; exact h1.2.2
  · simp at h1
theorem St.cap {w0 wr : World} {a : Option Addr} {n c : Nat} {ps : List Int} (h : St w0 wr (.slice a n c) ps) : ps.length ≤ c := by
  rcases h.own.2 with ⟨h1, h2⟩ | ⟨g, cap, cur, h1, h3, h4, h5, h6, h7, h8⟩
  · rw [h2]; exact Nat.zero_le _
  · simp only [Value.slice.injEq] at h1
    obtain ⟨rfl, -, rfl⟩ := h1
    omega
end Go.Proofs.Ytmhicllhjiglkaa
namespace Go.Proofs.Ytmhicllhjiglkaa
open Go.RowKit
/-- is x among the numbers, each modulo n? -/
def hitL (n : Nat) : List Int → Nat → Bool
  | [], _ => false
  | r :: t, x => (wrap64 ((IntKind.u64.wrap r).tmod (n : Int)) == (x : Int)) || hitL n t x
def hit (n : Nat) (raw : List Int) (x : Nat) : Bool := hitL n (raw.take 200) x
/-- the set that is made of raw numbers: those below k -/
def setL (n : Nat) (raw : List Int) : Nat → List Int
  | 0 => []
  | k + 1 => setL n raw k ++ (if hit n raw k = true then [(k : Int)] else [])
theorem setL_le (n : Nat) (raw : List Int) (k : Nat) : (setL n raw k).length ≤ k := by
  induction k with
  | zero => simp [setL]
  | succ k ih => unfold setL; split <;> simp <;> omega
theorem i64_one (ps : List Int) : ∀ u ∈ I64 ps, u.oneCell' = true := by
  intro u hu; simp [I64] at hu; obtain ⟨x, _, rfl⟩ := hu; rfl
/-- a slice of numbers more -/
theorem wpList_appN {ops : Array Oper} {rest : List Oper} {o : Oper} {a : Act} {Q : Exit → Act → World → Prop} (w0 w1 : World) (hgd : o.guard = none) (s x : Operand)
    (ho : o.op = .call { callee := .builtin .append, args := #[s, x], argTypes := #[38, 38] })
    (v : Value) (ps zs : List Int) (ad : Addr) (c : Nat) (hS : St w0 w1 v ps) (hs : a.eval s = v) (hx : a.eval x = .slice (some ad) zs.length c) (hz : Ri w1 (some ad) zs) (hl : ps.length + zs.length ≤ 1000000)
    (h : ∀ a' c' w', St w0 w' (.slice a' (ps.length + zs.length) c') (ps ++ zs) → wpList Try.prog ops Q rest (a.put o.dst (.slice a' (ps.length + zs.length) c')) w') : wpList Try.prog ops Q (o :: rest) a w1 := by
  obtain ⟨i0, hi, hz0, hz1, hz2⟩ := info_parts info3p
  refine wpList_append_own _ hgd s x 38 ho w0.heap.size 3 i0 (.int .i64 0) 1 8 Try.underlying38 hi hz0 hz1 hz2 rfl (by decide) v ps.length (I64 ps) hs hS.own ad zs.length c (I64 zs) hx (by simp [I64]) ?_ (i64_one zs) ?_ ?_ ?_ ?_
  · intro j u hj
    unfold I64 at hj
    rw [List.getElem?_map, Option.map_eq_some_iff] at hj
    obtain ⟨n, hn, rfl⟩ := hj
    obtain ⟨b, o', e, hc⟩ := hz j n hn
    obtain rfl := Option.some.inj e
    have e2 : (⟨b, o', none⟩ : Addr).add j = ⟨b, o' + j, none⟩ := by
      unfold Addr.add
      split
      · rename_i hj0; rw [hj0]; rfl
      · rfl
    rw [e2]; exact hc
  · unfold maxLen; omega
  · omega
  · exact hS.bel.size
  · intro v' w' hown hgrow _
    have hT : St w0 w' v' (ps ++ zs) := by
      refine ⟨?_, hS.bel.grown hgrow hS.bel.size (fun k hk => ((hS.own.lt k hk).1))⟩
      have e : I64 (ps ++ zs) = I64 ps ++ I64 zs := by simp [I64]
      rw [e]
      simpa using hown
    obtain ⟨a', c', rfl⟩ := hT.slice
    simp only [List.length_append] at hT ⊢
    exact h a' c' w' hT
/-- nothing more -/
theorem wpList_app0 {ops : Array Oper} {rest : List Oper} {o : Oper} {a : Act} {Q : Exit → Act → World → Prop} (w0 w1 : World) (hgd : o.guard = none) (s x : Operand)
    (ho : o.op = .call { callee := .builtin .append, args := #[s, x], argTypes := #[38, 38] })
    (v : Value) (ps : List Int) (hS : St w0 w1 v ps) (hs : a.eval s = v) (hx : a.eval x = .slice none 0 0)
    (h : wpList Try.prog ops Q rest (a.put o.dst v) w1) : wpList Try.prog ops Q (o :: rest) a w1 := by
  refine wpList_plain hgd fun K hK => ?_
  obtain ⟨i0, hi, hz0, hz1, hz2⟩ := info_parts info3p
  have hr := run_append_owned_none (P := Try.prog) (w := w1) w0.heap.size 38 o.type 3 i0 1 Try.underlying38 hi v ps.length (I64 ps) hS.own
  unfold Oper.wp execOp
  simp only [ho, resolve, invoke, builtin, Sem.run_bind, Sem.run_pure, Result.andThen_ok, List.map_toArray, List.map_cons, List.map_nil, hs, hx, hr]
  exact hK _ _ h
/-- what is in either -/
def uniL : List Int → List Int → List Int
  | [], ys => ys
  | x :: s, [] => x :: s
  | x :: s, y :: t => if x < y then x :: uniL s (y :: t) else if y < x then y :: uniL (x :: s) t else x :: uniL s t
theorem uniL_nil (xs : List Int) : uniL xs [] = xs := by cases xs <;> simp [uniL]
theorem made_own (n : Nat) (hn : n ≤ 1000000) : ∃ C : Array Value, (∀ w : World, (Instr.makeSlice 38 (.int .i64 0) (.int .i64 (n : Int))).run Try.prog w = .ok (.slice (some ⟨w.heap.size, 0, none⟩) 0 n) (w.alloc (.cells C 3))) ∧ ∀ w : World, St w (w.alloc (.cells C 3)) (.slice (some ⟨w.heap.size, 0, none⟩) 0 n) [] := by
  obtain ⟨i0, hi, hz0, hz1, hz2⟩ := info_parts info3p
  refine ⟨madeCells (Value.int .i64 0).cells (n * i0.size), fun w => ?_, fun w => ⟨?_, (Below.refl _ _).alloc (Nat.le_refl _) _⟩⟩
  · have h := run_make (P := Try.prog) w 38 3 i0 (.int .i64 0) Try.underlying38 hi hz0 .i64 .i64 0 n (Int.le_refl _) (by omega) (by rw [hz2]; omega) (by omega)
    simpa using h
  · have h := World.ownsRow_made (base := w.heap.size) (e := 3) (size := 1) w (madeCells (Value.int .i64 0).cells (n * i0.size)) n (Nat.le_refl _) (by unfold maxLen; omega) (by rw [size_madeCells, hz1])
    exact h
end Go.Proofs.Ytmhicllhjiglkaa
namespace Go.Proofs.Ytmhicllhjiglkaa
open Go.RowKit
theorem Ri.some {w : World} {a : Option Addr} {y : Int} {t : List Int} (h : Ri w a (y :: t)) : ∃ b o, a = some ⟨b, o, none⟩ := by
  obtain ⟨b, o, e, _⟩ := h.head; exact ⟨b, o, e⟩
set_option maxRecDepth 100000 in
set_option maxHeartbeats 16000000 in
theorem bunion_any (xs ys : List Int) (a b : Option Addr) (c d : Nat) (w : World) (hr : Ri w a xs) (hs : Ri w b ys) (hl : xs.length + ys.length ≤ 100000) (hc : xs.length ≤ c) (hd : ys.length ≤ d) (na : a = none → c = 0) (nb : b = none → d = 0) :
    Calls Try.prog 87 #[.slice a xs.length c, .slice b ys.length d] w fun e w' => ∃ a' c', e = .returned (.slice a' (uniL xs ys).length c') ∧ Ri w' a' (uniL xs ys) ∧ (uniL xs ys).length ≤ c' ∧ (a' = none → c' = 0) ∧ Below w.heap.size w w' := by
  have HR : Hid (Ri w a xs) := hr
  have HS : Hid (Ri w b ys) := hs
  have NA := hide na
  have NB := hide nb
  clear hr hs na nb
  obtain ⟨C, hmk, hown⟩ := made_own (xs.length + ys.length) (by omega)
  have hST := hide (hown w)
  clear hown
  have hmk2 : ∀ w : World, (Instr.makeSlice 38 (.int .i64 0) (.int .i64 ((xs.length : Int) + ys.length))).run Try.prog w = .ok (.slice (some ⟨w.heap.size, 0, none⟩) 0 (xs.length + ys.length)) (w.alloc (.cells C 3)) := fun w => by simpa using hmk w
  clear hmk
  go_enter Try.func87, Try.ntmps87
  go_wp2_with fail
  clear hmk2
  go_loopw [0, 1, 5] (fun s0 s1 s5 wr => ∃ (a' b' : Option Addr) (zs us ps : List Int) (c' d' : Nat), s0 = .slice a' zs.length c' ∧ s1 = .slice b' us.length d' ∧ zs.length ≤ c' ∧ us.length ≤ d' ∧ ps.length + zs.length + us.length ≤ xs.length + ys.length ∧ Hid ((a' = none → c' = 0) ∧ (b' = none → d' = 0) ∧ Su a xs a' zs ∧ Su b ys b' us ∧ St w wr s5 ps ∧ ps ++ uniL zs us = uniL xs ys)) (fun s0 s1 _ _ => lenOf s0 + lenOf s1)
  case atStart => exact ⟨a, b, xs, ys, [], c, d, rfl, rfl, hc, hd, by simp, ⟨NA.out, NB.out, fun _ h => h, fun _ h => h, hST.out, rfl⟩⟩
  case round =>
    obtain ⟨a', b', zs, us, ps, c', d', rfl, rfl, h2, h3, hb, h4⟩ := hrel
    have hS := h4.out.2.2.2.2.1
    obtain ⟨a5, c5, rfl⟩ := hS.slice
    have HST : Hid (St w wr (.slice a5 ps.length c5) ps) := hS
    have HZ : Hid (Ri wr a' zs) := h4.out.2.2.1 _ (HR.out.keep' hS.bel)
    have HU : Hid (Ri wr b' us) := h4.out.2.2.2.1 _ (HS.out.keep' hS.bel)
    clear hS hST
    by_cases hex : zs = [] ∨ us = []
    · have HE : Hid (ps ++ zs ++ us = uniL xs ys) := hide (by
        rw [← h4.out.2.2.2.2.2, List.append_assoc]
        rcases hex with rfl | rfl
        · simp [uniL]
        · rw [uniL_nil]; simp)
      have HSu := hide h4.out.2.2.2.1
      have nz : a' = none → zs = [] ∧ c' = 0 := fun e => by
        refine ⟨?_, h4.out.1 e⟩
        cases zs with
        | nil => rfl
        | cons y t => obtain ⟨b2, o2, e2⟩ := HZ.out.some; rw [e] at e2; cases e2
      have nu : b' = none → us = [] ∧ d' = 0 := fun e => by
        refine ⟨?_, h4.out.2.1 e⟩
        cases us with
        | nil => rfl
        | cons y t => obtain ⟨b2, o2, e2⟩ := HU.out.some; rw [e] at e2; cases e2
      clear h4
      rcases hex with rfl | rfl
      · cases a' with
        | none =>
          obtain ⟨ez, ec⟩ := nz rfl
          clear ez
          subst ec
          clear nz
          cases b' with
          | none =>
            obtain ⟨eu, ed⟩ := nu rfl
            subst eu
            subst ed
            clear nu
            go_wp2_with (first | (at_builtin; refine wpList_app0 w wr rfl (.tmp 46) (.tmp 47) rfl _ ps HST.out rfl rfl ?_) | (at_builtin; refine wpList_app0 w wr rfl (.tmp 49) (.tmp 50) rfl _ ps HST.out (by simp [go_sem]) rfl ?_))
            all_goals (go_ret; have hE : ps = uniL xs ys := (by have t := HE.out; simpa using t); rw [← hE]; exact ⟨_, _, by simp [go_sem], HST.out.ri, HST.out.cap, HST.out.nn, HST.out.bel⟩)
          | some bd =>
            clear nu
            go_wp2_with (first | (at_builtin; refine wpList_app0 w wr rfl (.tmp 46) (.tmp 47) rfl _ ps HST.out rfl rfl ?_) | (at_builtin; have HU2 := hide (HSu.out _ (HS.out.keep' HST.out.bel)); refine wpList_appN w wr rfl (.tmp 49) (.tmp 50) rfl _ ps us bd d' HST.out (by simp [go_sem]) rfl HU2.out (by simp at *; omega) ?_; intro a3 c3 w3 hS3; replace hS3 := (hide hS3)))
            all_goals (go_ret; have hE : ps ++ us = uniL xs ys := (by have t := HE.out; simpa using t); rw [← hE]; exact ⟨_, _, by simp [go_sem], hS3.out.ri, hS3.out.cap, hS3.out.nn, hS3.out.bel⟩)
        | some ad =>
          clear nz
          cases b' with
          | none =>
            obtain ⟨eu, ed⟩ := nu rfl
            subst eu
            subst ed
            clear nu
            go_wp2_with (first | (at_builtin; refine wpList_appN w wr rfl (.tmp 46) (.tmp 47) rfl _ ps [] ad c' HST.out rfl rfl HZ.out (by simp at *; omega) ?_; intro a2 c2 w2 hS2; replace hS2 := (hide hS2)) | (at_builtin; refine wpList_app0 w w2 rfl (.tmp 49) (.tmp 50) rfl _ (ps ++ []) hS2.out (by simp [go_sem]) rfl ?_))
            all_goals (go_ret; have hE : ps ++ [] = uniL xs ys := (by have t := HE.out; simpa using t); rw [← hE]; exact ⟨_, _, by simp [go_sem], hS2.out.ri, hS2.out.cap, hS2.out.nn, hS2.out.bel⟩)
          | some bd =>
            clear nu
            go_wp2_with (first | (at_builtin; refine wpList_appN w wr rfl (.tmp 46) (.tmp 47) rfl _ ps [] ad c' HST.out rfl rfl HZ.out (by simp at *; omega) ?_; intro a2 c2 w2 hS2; replace hS2 := (hide hS2)) | (at_builtin; have HU2 := hide (HSu.out _ (HS.out.keep' hS2.out.bel)); refine wpList_appN w w2 rfl (.tmp 49) (.tmp 50) rfl _ (ps ++ []) us bd d' hS2.out (by simp [go_sem]) rfl HU2.out (by simp at *; omega) ?_; intro a3 c3 w3 hS3; replace hS3 := (hide hS3)))
            all_goals (go_ret; have hE : (ps ++ []) ++ us = uniL xs ys := (by have t := HE.out; simpa using t); rw [← hE]; exact ⟨_, _, by simp [go_sem], hS3.out.ri, hS3.out.cap, hS3.out.nn, hS3.out.bel⟩)
      · cases a' with
        | none =>
          obtain ⟨ez, ec⟩ := nz rfl
          subst ez
          subst ec
          clear nz
          cases b' with
          | none =>
            obtain ⟨eu, ed⟩ := nu rfl
            clear eu
            subst ed
            clear nu
            go_wp2_with (first | (at_builtin; refine wpList_app0 w wr rfl (.tmp 46) (.tmp 47) rfl _ ps HST.out rfl rfl ?_) | (at_builtin; refine wpList_app0 w wr rfl (.tmp 49) (.tmp 50) rfl _ ps HST.out (by simp [go_sem]) rfl ?_))
            all_goals (go_ret; have hE : ps = uniL xs ys := (by have t := HE.out; simpa using t); rw [← hE]; exact ⟨_, _, by simp [go_sem], HST.out.ri, HST.out.cap, HST.out.nn, HST.out.bel⟩)
          | some bd =>
            clear nu
            go_wp2_with (first | (at_builtin; refine wpList_app0 w wr rfl (.tmp 46) (.tmp 47) rfl _ ps HST.out rfl rfl ?_) | (at_builtin; have HU2 := hide (HSu.out _ (HS.out.keep' HST.out.bel)); refine wpList_appN w wr rfl (.tmp 49) (.tmp 50) rfl _ ps [] bd d' HST.out (by simp [go_sem]) rfl HU2.out (by simp at *; omega) ?_; intro a3 c3 w3 hS3; replace hS3 := (hide hS3)))
            all_goals (go_ret; have hE : ps ++ [] = uniL xs ys := (by have t := HE.out; simpa using t); rw [← hE]; exact ⟨_, _, by simp [go_sem], hS3.out.ri, hS3.out.cap, hS3.out.nn, hS3.out.bel⟩)
        | some ad =>
          clear nz
          cases b' with
          | none =>
            obtain ⟨eu, ed⟩ := nu rfl
            clear eu
            subst ed
            clear nu
            go_wp2_with (first | (at_builtin; refine wpList_appN w wr rfl (.tmp 46) (.tmp 47) rfl _ ps zs ad c' HST.out rfl rfl HZ.out (by simp at *; omega) ?_; intro a2 c2 w2 hS2; replace hS2 := (hide hS2)) | (at_builtin; refine wpList_app0 w w2 rfl (.tmp 49) (.tmp 50) rfl _ (ps ++ zs) hS2.out (by simp [go_sem]) rfl ?_))
            all_goals (go_ret; have hE : ps ++ zs = uniL xs ys := (by have t := HE.out; simpa using t); rw [← hE]; exact ⟨_, _, by simp [go_sem], hS2.out.ri, hS2.out.cap, hS2.out.nn, hS2.out.bel⟩)
          | some bd =>
            clear nu
            go_wp2_with (first | (at_builtin; refine wpList_appN w wr rfl (.tmp 46) (.tmp 47) rfl _ ps zs ad c' HST.out rfl rfl HZ.out (by simp at *; omega) ?_; intro a2 c2 w2 hS2; replace hS2 := (hide hS2)) | (at_builtin; have HU2 := hide (HSu.out _ (HS.out.keep' hS2.out.bel)); refine wpList_appN w w2 rfl (.tmp 49) (.tmp 50) rfl _ (ps ++ zs) [] bd d' hS2.out (by simp [go_sem]) rfl HU2.out (by simp at *; omega) ?_; intro a3 c3 w3 hS3; replace hS3 := (hide hS3)))
            all_goals (go_ret; have hE : (ps ++ zs) ++ [] = uniL xs ys := (by have t := HE.out; simpa using t); rw [← hE]; exact ⟨_, _, by simp [go_sem], hS3.out.ri, hS3.out.cap, hS3.out.nn, hS3.out.bel⟩)
    · cases zs with
      | nil => exact absurd (Or.inl rfl) hex
      | cons x s =>
        cases us with
        | nil => exact absurd (Or.inr rfl) hex
        | cons y t =>
          clear hex
          obtain ⟨bz, oz, rfl, hcell, -⟩ := HZ.out.head
          obtain ⟨bu, ou, rfl, hcell2, -⟩ := HU.out.head
          have h2' : s.length + 1 ≤ c' := by simpa using h2
          have h3' : t.length + 1 ≤ d' := by simpa using h3
          have hp2 : ps.length ≤ 1000000 := by simp at hb; omega
          clear HZ HU
          have S1 : Hid (Su a xs (if c' = 1 then some ⟨bz, oz, none⟩ else some ⟨bz, oz + 1, none⟩) s) := hide (fun w2 h5 => (Ri.tail (h4.out.2.2.1 w2 h5)).step h2')
          have S2 : Hid (Su b ys (if d' = 1 then some ⟨bu, ou, none⟩ else some ⟨bu, ou + 1, none⟩) t) := hide (fun w2 h5 => (Ri.tail (h4.out.2.2.2.1 w2 h5)).step h3')
          have N1 : Hid ((if c' = 1 then some (⟨bz, oz, none⟩ : Addr) else some ⟨bz, oz + 1, none⟩) = none → c' - 1 = 0) := hide (fun e => by split at e <;> cases e)
          have N2 : Hid ((if d' = 1 then some (⟨bu, ou, none⟩ : Addr) else some ⟨bu, ou + 1, none⟩) = none → d' - 1 = 0) := hide (fun e => by split at e <;> cases e)
          have S3 := hide h4.out.2.2.1
          have S4 := hide h4.out.2.2.2.1
          have HE := hide h4.out.2.2.2.2.2
          clear h4
          by_cases hlt : x < y
          · have HE2 : Hid (ps ++ [x] ++ uniL s (y :: t) = uniL xs ys) := hide (by have e := HE.out; rw [uniL, if_pos hlt] at e; simpa using e)
            have hm : min x y = x := by omega
            have q1 : (y == x) = false := beq_eq_false_iff_ne.2 (by omega)
            go_wp2
            go_quiet (fail)
            have HS2 := hide (HST.out.drewN nq)
            go_wp2_with (at_builtin; refine wpList_app1 w (wr.drewN nq) rfl (.tmp 42) (.tmp 44) rfl _ ps x HS2.out (by simp [go_sem]) rfl hp2 ?_; intro a2 c2 w2 hS2; replace hS2 := (hide hS2))
            go_round
            case rel => exact ⟨_, _, s, y :: t, ps ++ [x], c' - 1, d', rfl, rfl, by first | exact h2 | omega, by first | exact h3 | omega, by simp at *; omega, ⟨N1.out, (fun e => by cases e), S1.out, S4.out, by simpa using hS2.out, HE2.out⟩⟩
            case measure => simp [lenOf]; try omega
          by_cases hgt : y < x
          · have HE2 : Hid (ps ++ [y] ++ uniL (x :: s) t = uniL xs ys) := hide (by have e := HE.out; rw [uniL, if_neg hlt, if_pos hgt] at e; simpa using e)
            have hm : min x y = y := by omega
            have q1 : (x == y) = false := beq_eq_false_iff_ne.2 (by omega)
            go_wp2
            go_quiet (fail)
            have HS2 := hide (HST.out.drewN nq)
            go_wp2_with (at_builtin; refine wpList_app1 w (wr.drewN nq) rfl (.tmp 42) (.tmp 44) rfl _ ps y HS2.out (by simp [go_sem]) rfl hp2 ?_; intro a2 c2 w2 hS2; replace hS2 := (hide hS2))
            go_round
            case rel => exact ⟨_, _, x :: s, t, ps ++ [y], c', d' - 1, rfl, rfl, by first | exact h2 | omega, by first | exact h3 | omega, by simp at *; omega, ⟨(fun e => by cases e), N2.out, S3.out, S2.out, by simpa using hS2.out, HE2.out⟩⟩
            case measure => simp [lenOf]; try omega
          · have HE2 : Hid (ps ++ [x] ++ uniL s t = uniL xs ys) := hide (by have e := HE.out; rw [uniL, if_neg hlt, if_neg hgt] at e; simpa using e)
            obtain rfl : x = y := by omega
            have hm : min x x = x := by omega
            go_wp2
            go_quiet (fail)
            have HS2 := hide (HST.out.drewN nq)
            go_wp2_with (at_builtin; refine wpList_app1 w (wr.drewN nq) rfl (.tmp 42) (.tmp 44) rfl _ ps x HS2.out (by simp [go_sem]) rfl hp2 ?_; intro a2 c2 w2 hS2; replace hS2 := (hide hS2))
            go_round
            case rel => exact ⟨_, _, s, t, ps ++ [x], c' - 1, d' - 1, rfl, rfl, by first | exact h2 | omega, by first | exact h3 | omega, by simp at *; omega, ⟨N1.out, N2.out, S1.out, S2.out, by simpa using hS2.out, HE2.out⟩⟩
            case measure => simp [lenOf]; try omega
end Go.Proofs.Ytmhicllhjiglkaa
