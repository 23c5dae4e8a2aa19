import Derived.Test.YtmhicllhjiglkaaG14
import Derived.Test.YtmhicllhjiglkaaG11
import Derived.Deep.RegionHeld3
namespace Go.Proofs.Ytmhicllhjiglkaa
open Go.RowKit
abbrev a2 (X0 X1 X2 X13 X14 X15 X16 : Value) (p q k5 : Nat) (y7 y8 y9 y17 y18 y19 y20 y21 y22 y23 y24 y25 y26 y27 y28 y29 : Value) : Act := { tmps := #[X0, X1, X2, .pointer (some ⟨p, 0, none⟩), .pointer (some ⟨q, 0, none⟩), .pointer (some ⟨k5, 0, none⟩), .bool false, y7, y8, y9, undef, undef, undef, X13, X14, X15, X16, y17, y18, y19, y20, y21, y22, y23, y24, y25, y26, y27, y28, y29, undef, undef, undef, undef, undef, undef, undef, undef, undef, undef, undef, undef, undef, undef, undef, undef, undef, undef, undef, undef, undef, undef, undef, undef, undef, undef, undef, undef, undef, undef, undef, undef, undef, undef, undef, undef, undef, undef, undef, undef, undef, undef, undef, undef, undef, undef, undef, undef, undef, undef, undef, undef, undef, undef, undef, undef, undef, undef, undef, undef, undef, undef, undef, undef, undef, undef, undef, undef, undef, undef, undef, undef, undef, undef, undef, undef, undef, undef, undef, undef, undef, undef, undef, undef, undef, undef, undef, undef, undef, undef, undef, undef, undef, undef, undef, undef, undef, undef, undef, undef, undef, undef, undef, undef, undef, undef, undef, undef, undef, undef, undef, undef, undef, undef, undef, undef], defers := [] }
structure Ch9 (w : World) (k5 : Nat) (i : Int) (x : R) (st nu : Int) : Prop where
  c0 : w.cell? ⟨k5, 0, none⟩ = some (.int .i64 i)
  s : w.cell? ⟨k5, 1, none⟩ = some (.int .i64 x.s) ∧ w.cell? ⟨k5, 2, none⟩ = some (.bool x.k) ∧ w.cell? ⟨k5, 3, none⟩ = some (.int .i64 x.n) ∧ w.cell? ⟨k5, 4, none⟩ = some (.int .i64 x.lo) ∧ w.cell? ⟨k5, 5, none⟩ = some (.int .i64 x.hi) ∧ w.cell? ⟨k5, 6, none⟩ = some (.int .i64 x.p) ∧ w.cell? ⟨k5, 7, none⟩ = some (.int .i64 st) ∧ w.cell? ⟨k5, 8, none⟩ = some (.int .i64 nu)
theorem Ch9.keep {w w' : World} {k5 : Nat} {i : Int} {x : R} {st nu : Int} (h : Ch9 w k5 i x st nu) (e : w'.heap[k5]? = w.heap[k5]?) : Ch9 w' k5 i x st nu :=
  ⟨(World.cell?_of_block (a := ⟨k5, 0, none⟩) e).trans h.c0, (World.cell?_of_block (a := ⟨k5, 1, none⟩) e).trans h.s.1, (World.cell?_of_block (a := ⟨k5, 2, none⟩) e).trans h.s.2.1, (World.cell?_of_block (a := ⟨k5, 3, none⟩) e).trans h.s.2.2.1, (World.cell?_of_block (a := ⟨k5, 4, none⟩) e).trans h.s.2.2.2.1, (World.cell?_of_block (a := ⟨k5, 5, none⟩) e).trans h.s.2.2.2.2.1, (World.cell?_of_block (a := ⟨k5, 6, none⟩) e).trans h.s.2.2.2.2.2.1, (World.cell?_of_block (a := ⟨k5, 7, none⟩) e).trans h.s.2.2.2.2.2.2.1, (World.cell?_of_block (a := ⟨k5, 8, none⟩) e).trans h.s.2.2.2.2.2.2.2⟩
theorem f6_new (w : World) (t : TypeId) : ∀ j, j < 6 → (w.alloc (.cells #[.int .i64 0, .bool false, .int .i64 0, .int .i64 0, .int .i64 0, .int .i64 0] t)).frozen? ⟨w.heap.size, j, none⟩ = false := by
  intro j hj
  match j, hj with
  | 0, _ => simp [go_sem]
  | 1, _ => simp [go_sem]
  | 2, _ => simp [go_sem]
  | 3, _ => simp [go_sem]
  | 4, _ => simp [go_sem]
  | 5, _ => simp [go_sem]
theorem f6_keep {w w' : World} {g : Nat} (h : ∀ j, j < 6 → w.frozen? ⟨g, j, none⟩ = false) (e : w'.heap[g]? = w.heap[g]?) : ∀ j, j < 6 → w'.frozen? ⟨g, j, none⟩ = false := fun j hj => (World.frozen?_of_block (a := ⟨g, j, none⟩) e).trans (h j hj)
set_option maxRecDepth 100000 in
set_option maxHeartbeats 8000000 in
theorem t2 {Q0 : Exit → Act → World → Prop} (X0 X1 X2 X13 X14 X15 X16 : Value) (p q k5 : Nat) (i : Int) (x : R) (st nu : Int) (u : V) (V : World) (hP : ∀ c (a : Act) d v w, Q0 (.panic c) (a.put d v) w → Q0 (.panic c) a w) (hk : Ch9 V k5 i x st nu)
    (cF : ∀ w, Calls Try.prog 25 #[.agg #[.int .i64 x.s, .bool x.k, .int .i64 x.n, .int .i64 x.lo, .int .i64 x.hi, .int .i64 x.p]] w fun e w' => e = .returned (.agg #[.int .i64 (up u.s), .bool u.k, .int .i64 u.n, .int .i64 u.lo, .int .i64 u.hi, .int .i64 (up u.p)]) ∧ Below w.heap.size w w')
    (hQ : ∀ (w : World) (k7 : Nat) (z1 z2 : Int) (y17 y18 y19 y20 y21 y22 y23 y24 y25 y26 y27 y28 y29 : Value), B6 w k7 0 u.raw → 0 ≤ z1 ∧ z1 < 70 → 0 ≤ z2 ∧ z2 < 4000 → Below V.heap.size V w → Q0 .normal (a2 X0 X1 X2 X13 X14 X15 X16 p q k5 (.pointer (some ⟨k7, 0, none⟩)) (.int .i64 z1) (.int .i64 z2) y17 y18 y19 y20 y21 y22 y23 y24 y25 y26 y27 y28 y29) w) :
    (Code.region 2 #[{ dst := some 17, op := Op.fieldAddr 60 (Operand.tmp 5) 1, type := 0, pos := "law.go:105", after := #[], guard := none }, { dst := some 18, op := Op.load 48 (Operand.tmp 17), type := 48, pos := "law.go:105", after := #[{ on := 0, ground := Ground.data }], guard := none }, { dst := some 19, op := Op.call { callee := Callee.value (Operand.func 25), args := #[Operand.tmp 18], argTypes := #[48] }, type := 48, pos := "law.go:105", after := #[{ on := 1, ground := Ground.data }], guard := none }, { dst := some 20, op := Op.fieldAddr 60 (Operand.tmp 5) 2, type := 0, pos := "law.go:105", after := #[{ on := 14, ground := Ground.gcOnly Departure.lateStores }], guard := none }, { dst := some 21, op := Op.load 3 (Operand.tmp 20), type := 3, pos := "law.go:105", after := #[{ on := 3, ground := Ground.data }, { on := 14, ground := Ground.gcOnly Departure.lateStores }], guard := none }, { dst := some 22, op := Op.convert 3 55 (Operand.tmp 21), type := 55, pos := "law.go:105", after := #[{ on := 4, ground := Ground.data }, { on := 14, ground := Ground.gcOnly Departure.lateStores }], guard := none }, { dst := some 23, op := Op.binOp BinOp.rem 55 (Operand.tmp 22) (Operand.const (Value.int IntKind.u64 70)) 55, type := 55, pos := "law.go:105", after := #[{ on := 5, ground := Ground.data }, { on := 14, ground := Ground.gcOnly Departure.lateStores }], guard := none }, { dst := some 24, op := Op.convert 55 3 (Operand.tmp 23), type := 3, pos := "law.go:105", after := #[{ on := 6, ground := Ground.data }, { on := 14, ground := Ground.gcOnly Departure.lateStores }], guard := none }, { dst := some 25, op := Op.fieldAddr 60 (Operand.tmp 5) 3, type := 0, pos := "law.go:105", after := #[{ on := 15, ground := Ground.gcOnly Departure.lateStores }], guard := none }, { dst := some 26, op := Op.load 3 (Operand.tmp 25), type := 3, pos := "law.go:105", after := #[{ on := 8, ground := Ground.data }, { on := 15, ground := Ground.gcOnly Departure.lateStores }], guard := none }, { dst := some 27, op := Op.convert 3 55 (Operand.tmp 26), type := 55, pos := "law.go:105", after := #[{ on := 9, ground := Ground.data }, { on := 15, ground := Ground.gcOnly Departure.lateStores }], guard := none }, { dst := some 28, op := Op.binOp BinOp.rem 55 (Operand.tmp 27) (Operand.const (Value.int IntKind.u64 4000)) 55, type := 55, pos := "law.go:105", after := #[{ on := 10, ground := Ground.data }, { on := 15, ground := Ground.gcOnly Departure.lateStores }], guard := none }, { dst := some 29, op := Op.convert 55 3 (Operand.tmp 28), type := 3, pos := "law.go:105", after := #[{ on := 11, ground := Ground.data }, { on := 15, ground := Ground.gcOnly Departure.lateStores }], guard := none }, { dst := some 7, op := Op.alloc 48, type := 0, pos := "law.go:105", after := #[], guard := none }, { dst := none, op := Op.store 48 (Operand.tmp 7) (Operand.tmp 19), type := 0, pos := "law.go:105", after := #[{ on := 13, ground := Ground.data }, { on := 2, ground := Ground.data }, { on := 2, ground := Ground.chain }, { on := 0, ground := Ground.phase }, { on := 1, ground := Ground.phase }, { on := 2, ground := Ground.phase }, { on := 3, ground := Ground.textOnly Departure.lateStores }, { on := 4, ground := Ground.textOnly Departure.lateStores }, { on := 5, ground := Ground.textOnly Departure.lateStores }, { on := 6, ground := Ground.textOnly Departure.lateStores }, { on := 7, ground := Ground.textOnly Departure.lateStores }, { on := 8, ground := Ground.textOnly Departure.lateStores }, { on := 9, ground := Ground.textOnly Departure.lateStores }, { on := 10, ground := Ground.textOnly Departure.lateStores }, { on := 11, ground := Ground.textOnly Departure.lateStores }, { on := 12, ground := Ground.textOnly Departure.lateStores }, { on := 13, ground := Ground.phase }], guard := none }, { dst := some 8, op := Op.assign (Operand.tmp 24), type := 3, pos := "law.go:105", after := #[{ on := 7, ground := Ground.data }, { on := 14, ground := Ground.chain }, { on := 0, ground := Ground.phase }, { on := 1, ground := Ground.phase }, { on := 2, ground := Ground.phase }, { on := 3, ground := Ground.phase }, { on := 4, ground := Ground.phase }, { on := 5, ground := Ground.phase }, { on := 6, ground := Ground.phase }, { on := 7, ground := Ground.phase }, { on := 8, ground := Ground.textOnly Departure.lateStores }, { on := 9, ground := Ground.textOnly Departure.lateStores }, { on := 10, ground := Ground.textOnly Departure.lateStores }, { on := 11, ground := Ground.textOnly Departure.lateStores }, { on := 12, ground := Ground.textOnly Departure.lateStores }, { on := 13, ground := Ground.phase }, { on := 14, ground := Ground.phase }], guard := none }, { dst := some 9, op := Op.assign (Operand.tmp 29), type := 3, pos := "law.go:105", after := #[{ on := 12, ground := Ground.data }, { on := 15, ground := Ground.chain }, { on := 0, ground := Ground.phase }, { on := 1, ground := Ground.phase }, { on := 2, ground := Ground.phase }, { on := 3, ground := Ground.phase }, { on := 4, ground := Ground.phase }, { on := 5, ground := Ground.phase }, { on := 6, ground := Ground.phase }, { on := 7, ground := Ground.phase }, { on := 8, ground := Ground.phase }, { on := 9, ground := Ground.phase }, { on := 10, ground := Ground.phase }, { on := 11, ground := Ground.phase }, { on := 12, ground := Ground.phase }, { on := 13, ground := Ground.phase }, { on := 14, ground := Ground.phase }, { on := 15, ground := Ground.phase }], guard := none }] true).wp Try.prog Q0 (a2 X0 X1 X2 X13 X14 X15 X16 p q k5 undef undef undef undef undef undef undef undef undef undef undef undef undef undef undef undef) V := by
  dsimp only [a2]
  have HS : Hid (∀ w', Below V.heap.size V w' → (w'.cell? ⟨k5, 1, none⟩ = some (.int .i64 x.s) ∧ w'.cell? ⟨k5, 2, none⟩ = some (.bool x.k) ∧ w'.cell? ⟨k5, 3, none⟩ = some (.int .i64 x.n) ∧ w'.cell? ⟨k5, 4, none⟩ = some (.int .i64 x.lo) ∧ w'.cell? ⟨k5, 5, none⟩ = some (.int .i64 x.hi) ∧ w'.cell? ⟨k5, 6, none⟩ = some (.int .i64 x.p) ∧ w'.cell? ⟨k5, 7, none⟩ = some (.int .i64 st) ∧ w'.cell? ⟨k5, 8, none⟩ = some (.int .i64 nu))) := hide (fun w' h => (hk.keep (h.block k5 (World.block_lt_of_cell? V _ hk.c0))).s)
  have Z1 : Hid (0 ≤ IntKind.i64.wrap ((IntKind.u64.wrap st).tmod 70) ∧ IntKind.i64.wrap ((IntKind.u64.wrap st).tmod 70) < 70) := hide (by have t := site_ok st 70 (by omega) (by omega); rw [IntKind.wrap_i64]; unfold wrap64 at t; exact t)
  have Z2 : Hid (0 ≤ IntKind.i64.wrap ((IntKind.u64.wrap nu).tmod 4000) ∧ IntKind.i64.wrap ((IntKind.u64.wrap nu).tmod 4000) < 4000) := hide (by have t := site_ok nu 4000 (by omega) (by omega); rw [IntKind.wrap_i64]; unfold wrap64 at t; exact t)
  have HQ := hide hQ
  clear hk hQ
  refine wp_region_held_drew (S := fun w' => w'.cell? ⟨k5, 1, none⟩ = some (.int .i64 x.s) ∧ w'.cell? ⟨k5, 2, none⟩ = some (.bool x.k) ∧ w'.cell? ⟨k5, 3, none⟩ = some (.int .i64 x.n) ∧ w'.cell? ⟨k5, 4, none⟩ = some (.int .i64 x.lo) ∧ w'.cell? ⟨k5, 5, none⟩ = some (.int .i64 x.hi) ∧ w'.cell? ⟨k5, 6, none⟩ = some (.int .i64 x.p) ∧ w'.cell? ⟨k5, 7, none⟩ = some (.int .i64 st) ∧ w'.cell? ⟨k5, 8, none⟩ = some (.int .i64 nu)) (by kernel_rfl) (HS.out _ (Below.refl _ _).drew) (fun hH0 => ?_)
  obtain ⟨w0, hw0⟩ : ∃ w0, w0 = V.drew := ⟨_, rfl⟩
  (try rw [← hw0] at hH0)
  rw [← hw0]
  have b0 : Hid (Below V.heap.size V w0) := hw0 ▸ hide (Below.refl _ _).drew
  clear hw0
  refine wpAnyH_take (i := 0) (oi := ({ dst := some 17, op := Op.fieldAddr 60 (Operand.tmp 5) 1, type := 0, pos := _, after := _, guard := _ } : Oper)) (v := ?_) rfl (by kernel_rfl) (by kernel_rfl) (by kernel_rfl) (fun c a w h => hP c a _ _ w h) (Or.inl ⟨by rfl, ?_⟩) (by assumption) ?_
  rotate_left
  · (intro wz hSw; (try dsimp only at hSw); go_simp; try with_reducible rfl)
  simp only [Act.put, List.setIfInBounds_toArray, List.set_cons_zero, List.set_cons_succ]
  refine wpAnyH_take (i := 1) (oi := ({ dst := some 18, op := Op.load 48 (Operand.tmp 17), type := 48, pos := _, after := _, guard := _ } : Oper)) (v := ?_) rfl (by kernel_rfl) (by kernel_rfl) (by kernel_rfl) (fun c a w h => hP c a _ _ w h) (Or.inl ⟨by rfl, ?_⟩) (by assumption) ?_
  rotate_left
  · (intro wz hSw; (try dsimp only at hSw); go_simp; try with_reducible rfl)
  simp only [Act.put, List.setIfInBounds_toArray, List.set_cons_zero, List.set_cons_succ]
  refine wpAnyH_take (i := 3) (oi := ({ dst := some 20, op := Op.fieldAddr 60 (Operand.tmp 5) 2, type := 0, pos := _, after := _, guard := _ } : Oper)) (v := ?_) rfl (by kernel_rfl) (by kernel_rfl) (by kernel_rfl) (fun c a w h => hP c a _ _ w h) (Or.inl ⟨by rfl, ?_⟩) (by assumption) ?_
  rotate_left
  · (intro wz hSw; (try dsimp only at hSw); go_simp; try with_reducible rfl)
  simp only [Act.put, List.setIfInBounds_toArray, List.set_cons_zero, List.set_cons_succ]
  refine wpAnyH_take (i := 4) (oi := ({ dst := some 21, op := Op.load 3 (Operand.tmp 20), type := 3, pos := _, after := _, guard := _ } : Oper)) (v := ?_) rfl (by kernel_rfl) (by kernel_rfl) (by kernel_rfl) (fun c a w h => hP c a _ _ w h) (Or.inl ⟨by rfl, ?_⟩) (by assumption) ?_
  rotate_left
  · (intro wz hSw; (try dsimp only at hSw); go_simp; try with_reducible rfl)
  simp only [Act.put, List.setIfInBounds_toArray, List.set_cons_zero, List.set_cons_succ]
  refine wpAnyH_take (i := 5) (oi := ({ dst := some 22, op := Op.convert 3 55 (Operand.tmp 21), type := 55, pos := _, after := _, guard := _ } : Oper)) (v := ?_) rfl (by kernel_rfl) (by kernel_rfl) (by kernel_rfl) (fun c a w h => hP c a _ _ w h) (Or.inl ⟨by rfl, ?_⟩) (by assumption) ?_
  rotate_left
  · (intro wz hSw; (try dsimp only at hSw); go_simp; try with_reducible rfl)
  simp only [Act.put, List.setIfInBounds_toArray, List.set_cons_zero, List.set_cons_succ]
  refine wpAnyH_take (i := 6) (oi := ({ dst := some 23, op := Op.binOp BinOp.rem 55 (Operand.tmp 22) (Operand.const (Value.int IntKind.u64 70)) 55, type := 55, pos := _, after := _, guard := _ } : Oper)) (v := ?_) rfl (by kernel_rfl) (by kernel_rfl) (by kernel_rfl) (fun c a w h => hP c a _ _ w h) (Or.inl ⟨by rfl, ?_⟩) (by assumption) ?_
  rotate_left
  · (intro wz hSw; (try dsimp only at hSw); go_simp; try with_reducible rfl)
  simp only [Act.put, List.setIfInBounds_toArray, List.set_cons_zero, List.set_cons_succ]
  refine wpAnyH_take (i := 7) (oi := ({ dst := some 24, op := Op.convert 55 3 (Operand.tmp 23), type := 3, pos := _, after := _, guard := _ } : Oper)) (v := ?_) rfl (by kernel_rfl) (by kernel_rfl) (by kernel_rfl) (fun c a w h => hP c a _ _ w h) (Or.inl ⟨by rfl, ?_⟩) (by assumption) ?_
  rotate_left
  · (intro wz hSw; (try dsimp only at hSw); go_simp; try with_reducible rfl)
  simp only [Act.put, List.setIfInBounds_toArray, List.set_cons_zero, List.set_cons_succ]
  refine wpAnyH_take (i := 8) (oi := ({ dst := some 25, op := Op.fieldAddr 60 (Operand.tmp 5) 3, type := 0, pos := _, after := _, guard := _ } : Oper)) (v := ?_) rfl (by kernel_rfl) (by kernel_rfl) (by kernel_rfl) (fun c a w h => hP c a _ _ w h) (Or.inl ⟨by rfl, ?_⟩) (by assumption) ?_
  rotate_left
  · (intro wz hSw; (try dsimp only at hSw); go_simp; try with_reducible rfl)
  simp only [Act.put, List.setIfInBounds_toArray, List.set_cons_zero, List.set_cons_succ]
  refine wpAnyH_take (i := 9) (oi := ({ dst := some 26, op := Op.load 3 (Operand.tmp 25), type := 3, pos := _, after := _, guard := _ } : Oper)) (v := ?_) rfl (by kernel_rfl) (by kernel_rfl) (by kernel_rfl) (fun c a w h => hP c a _ _ w h) (Or.inl ⟨by rfl, ?_⟩) (by assumption) ?_
  rotate_left
  · (intro wz hSw; (try dsimp only at hSw); go_simp; try with_reducible rfl)
  simp only [Act.put, List.setIfInBounds_toArray, List.set_cons_zero, List.set_cons_succ]
  refine wpAnyH_take (i := 10) (oi := ({ dst := some 27, op := Op.convert 3 55 (Operand.tmp 26), type := 55, pos := _, after := _, guard := _ } : Oper)) (v := ?_) rfl (by kernel_rfl) (by kernel_rfl) (by kernel_rfl) (fun c a w h => hP c a _ _ w h) (Or.inl ⟨by rfl, ?_⟩) (by assumption) ?_
  rotate_left
  · (intro wz hSw; (try dsimp only at hSw); go_simp; try with_reducible rfl)
  simp only [Act.put, List.setIfInBounds_toArray, List.set_cons_zero, List.set_cons_succ]
  refine wpAnyH_take (i := 11) (oi := ({ dst := some 28, op := Op.binOp BinOp.rem 55 (Operand.tmp 27) (Operand.const (Value.int IntKind.u64 4000)) 55, type := 55, pos := _, after := _, guard := _ } : Oper)) (v := ?_) rfl (by kernel_rfl) (by kernel_rfl) (by kernel_rfl) (fun c a w h => hP c a _ _ w h) (Or.inl ⟨by rfl, ?_⟩) (by assumption) ?_
  rotate_left
  · (intro wz hSw; (try dsimp only at hSw); go_simp; try with_reducible rfl)
  simp only [Act.put, List.setIfInBounds_toArray, List.set_cons_zero, List.set_cons_succ]
  refine wpAnyH_take (i := 12) (oi := ({ dst := some 29, op := Op.convert 55 3 (Operand.tmp 28), type := 3, pos := _, after := _, guard := _ } : Oper)) (v := ?_) rfl (by kernel_rfl) (by kernel_rfl) (by kernel_rfl) (fun c a w h => hP c a _ _ w h) (Or.inl ⟨by rfl, ?_⟩) (by assumption) ?_
  rotate_left
  · (intro wz hSw; (try dsimp only at hSw); go_simp; try with_reducible rfl)
  simp only [Act.put, List.setIfInBounds_toArray, List.set_cons_zero, List.set_cons_succ]
  refine wpAnyH_ready (rs := [2, 13]) (by kernel_rfl) (by simp) ?_
  refine AllReadyH.cons (o := ({ dst := some 19, op := Op.call { callee := Callee.value (Operand.func 25), args := #[Operand.tmp 18], argTypes := #[48] }, type := 48, pos := _, after := _, guard := _ } : Oper)) rfl (fun K hK => ?_) (AllReadyH.cons (o := ({ dst := some 7, op := Op.alloc 48, type := 0, pos := _, after := _, guard := _ } : Oper)) rfl (fun K hK => ?_) AllReadyH.nil)
  · go_simp
    go_at_call 25
    refine (cF w0).mono ?_
    rintro e w1 ⟨rfl, hb⟩
    have b1 := hide (b0.out.trans (hb.mono b0.out.size))
    refine hK.out _ _ (HS.out _ b1.out) (fun hH1 => ?_)
    clear hK K hb
    refine wpAnyH_ready (rs := [13]) (by kernel_rfl) (by simp) ?_
    refine AllReadyH.cons (o := ({ dst := some 7, op := Op.alloc 48, type := 0, pos := _, after := _, guard := _ } : Oper)) rfl (fun K hK => ?_) AllReadyH.nil
    · go_simp
      have hb : Below w1.heap.size w1 (w1.alloc (.cells #[.int .i64 0, .bool false, .int .i64 0, .int .i64 0, .int .i64 0, .int .i64 0] 48)) := (Below.refl _ _).alloc (Nat.le_refl _) _
      have b2 := hide (b1.out.trans (hb.mono b1.out.size))
      have K2 := hide (And.intro (B6.new w1 ⟨0, false, 0, 0, 0, 0⟩ 48) (And.intro (f6_new w1 48) b1.out.size))
      refine hK.out _ _ (HS.out _ b2.out) (fun hH2 => ?_)
      clear hK K hb
      obtain ⟨w2, hw⟩ : ∃ z9, z9 = (w1.alloc (.cells #[.int .i64 0, .bool false, .int .i64 0, .int .i64 0, .int .i64 0, .int .i64 0] 48)) := ⟨_, rfl⟩
      dsimp only at K2
      rw [← hw] at hH2 b2 K2 ⊢
      clear hw
      generalize w1.heap.size = k7 at *
      refine wpAnyH_ready (rs := [14]) (by kernel_rfl) (by simp) ?_
      refine AllReadyH.cons (o := ({ dst := none, op := Op.store 48 (Operand.tmp 7) (Operand.tmp 19), type := 0, pos := _, after := _, guard := _ } : Oper)) rfl (fun K hK => ?_) AllReadyH.nil
      · have t := K2.out.1
        have c0 := t.c0
        have c1 := t.c1
        have c2 := t.c2
        have c3 := t.c3
        have c4 := t.c4
        have c5 := t.c5
        have f0 := K2.out.2.1 0 (by omega)
        have f1 := K2.out.2.1 1 (by omega)
        have f2 := K2.out.2.1 2 (by omega)
        have f3 := K2.out.2.1 3 (by omega)
        have f4 := K2.out.2.1 4 (by omega)
        have f5 := K2.out.2.1 5 (by omega)
        simp only [Nat.zero_add] at c1 c2 c3 c4 c5
        go_simp
        have B : B6 ((((((w2.setCell ⟨k7, 0, none⟩ (.int .i64 (up u.s))).setCell ⟨k7, 1, none⟩ (.bool u.k)).setCell ⟨k7, 2, none⟩ (.int .i64 u.n)).setCell ⟨k7, 3, none⟩ (.int .i64 u.lo)).setCell ⟨k7, 4, none⟩ (.int .i64 u.hi)).setCell ⟨k7, 5, none⟩ (.int .i64 (up u.p))) k7 0 u.raw := st6o_at t u.raw
        have b3 := hide (st6o_below b2.out k7 0 K2.out.2.2 (.int .i64 (up u.s)) (.bool u.k) (.int .i64 u.n) (.int .i64 u.lo) (.int .i64 u.hi) (.int .i64 (up u.p)))
        dsimp only [st6o] at b3
        simp only [Nat.zero_add] at b3
        refine hK.out _ _ (HS.out _ b3.out) (fun hH3 => ?_)
        clear hK K t c0 c1 c2 c3 c4 c5 f0 f1 f2 f3 f4 f5
        obtain ⟨w3, hw⟩ : ∃ z9, z9 = ((((((w2.setCell ⟨k7, 0, none⟩ (.int .i64 (up u.s))).setCell ⟨k7, 1, none⟩ (.bool u.k)).setCell ⟨k7, 2, none⟩ (.int .i64 u.n)).setCell ⟨k7, 3, none⟩ (.int .i64 u.lo)).setCell ⟨k7, 4, none⟩ (.int .i64 u.hi)).setCell ⟨k7, 5, none⟩ (.int .i64 (up u.p))) := ⟨_, rfl⟩
        rw [← hw] at hH3 b3 B ⊢
        clear hw
        refine wpAnyH_take (i := 15) (oi := ({ dst := some 8, op := Op.assign (Operand.tmp 24), type := 3, pos := _, after := _, guard := _ } : Oper)) (v := ?_) rfl (by kernel_rfl) (by kernel_rfl) (by kernel_rfl) (fun c a w h => hP c a _ _ w h) (Or.inl ⟨by rfl, ?_⟩) (by assumption) ?_
        rotate_left
        · (intro wz hSw; (try dsimp only at hSw); go_simp; try with_reducible rfl)
        simp only [Act.put, List.setIfInBounds_toArray, List.set_cons_zero, List.set_cons_succ]
        refine wpAnyH_take (i := 16) (oi := ({ dst := some 9, op := Op.assign (Operand.tmp 29), type := 3, pos := _, after := _, guard := _ } : Oper)) (v := ?_) rfl (by kernel_rfl) (by kernel_rfl) (by kernel_rfl) (fun c a w h => hP c a _ _ w h) (Or.inl ⟨by rfl, ?_⟩) (by assumption) ?_
        rotate_left
        · (intro wz hSw; (try dsimp only at hSw); go_simp; try with_reducible rfl)
        simp only [Act.put, List.setIfInBounds_toArray, List.set_cons_zero, List.set_cons_succ]
        refine wpAnyH_done (by kernel_rfl) ?_ _
        exact HQ.out _ _ _ _ _ _ _ _ _ _ _ _ _ _ _ _ _ B Z1.out Z2.out b3.out
  · go_simp
    have hb : Below w0.heap.size w0 (w0.alloc (.cells #[.int .i64 0, .bool false, .int .i64 0, .int .i64 0, .int .i64 0, .int .i64 0] 48)) := (Below.refl _ _).alloc (Nat.le_refl _) _
    have b1 := hide (b0.out.trans (hb.mono b0.out.size))
    have K1 := hide (And.intro (B6.new w0 ⟨0, false, 0, 0, 0, 0⟩ 48) (And.intro (f6_new w0 48) b0.out.size))
    refine hK.out _ _ (HS.out _ b1.out) (fun hH1 => ?_)
    clear hK K hb
    obtain ⟨w1, hw⟩ : ∃ z9, z9 = (w0.alloc (.cells #[.int .i64 0, .bool false, .int .i64 0, .int .i64 0, .int .i64 0, .int .i64 0] 48)) := ⟨_, rfl⟩
    dsimp only at K1
    rw [← hw] at hH1 b1 K1 ⊢
    clear hw
    generalize w0.heap.size = k7 at *
    refine wpAnyH_ready (rs := [2]) (by kernel_rfl) (by simp) ?_
    refine AllReadyH.cons (o := ({ dst := some 19, op := Op.call { callee := Callee.value (Operand.func 25), args := #[Operand.tmp 18], argTypes := #[48] }, type := 48, pos := _, after := _, guard := _ } : Oper)) rfl (fun K hK => ?_) AllReadyH.nil
    · go_simp
      go_at_call 25
      refine (cF w1).mono ?_
      rintro e w2 ⟨rfl, hb⟩
      have b2 := hide (b1.out.trans (hb.mono b1.out.size))
      have K2 := hide (And.intro (K1.out.1.keep hb) (And.intro (f6_keep K1.out.2.1 (hb.block _ K1.out.1.lt)) K1.out.2.2))
      refine hK.out _ _ (HS.out _ b2.out) (fun hH2 => ?_)
      clear hK K hb
      refine wpAnyH_ready (rs := [14]) (by kernel_rfl) (by simp) ?_
      refine AllReadyH.cons (o := ({ dst := none, op := Op.store 48 (Operand.tmp 7) (Operand.tmp 19), type := 0, pos := _, after := _, guard := _ } : Oper)) rfl (fun K hK => ?_) AllReadyH.nil
      · have t := K2.out.1
        have c0 := t.c0
        have c1 := t.c1
        have c2 := t.c2
        have c3 := t.c3
        have c4 := t.c4
        have c5 := t.c5
        have f0 := K2.out.2.1 0 (by omega)
        have f1 := K2.out.2.1 1 (by omega)
        have f2 := K2.out.2.1 2 (by omega)
        have f3 := K2.out.2.1 3 (by omega)
        have f4 := K2.out.2.1 4 (by omega)
        have f5 := K2.out.2.1 5 (by omega)
        simp only [Nat.zero_add] at c1 c2 c3 c4 c5
        go_simp
        have B : B6 ((((((w2.setCell ⟨k7, 0, none⟩ (.int .i64 (up u.s))).setCell ⟨k7, 1, none⟩ (.bool u.k)).setCell ⟨k7, 2, none⟩ (.int .i64 u.n)).setCell ⟨k7, 3, none⟩ (.int .i64 u.lo)).setCell ⟨k7, 4, none⟩ (.int .i64 u.hi)).setCell ⟨k7, 5, none⟩ (.int .i64 (up u.p))) k7 0 u.raw := st6o_at t u.raw
        have b3 := hide (st6o_below b2.out k7 0 K2.out.2.2 (.int .i64 (up u.s)) (.bool u.k) (.int .i64 u.n) (.int .i64 u.lo) (.int .i64 u.hi) (.int .i64 (up u.p)))
        dsimp only [st6o] at b3
        simp only [Nat.zero_add] at b3
        refine hK.out _ _ (HS.out _ b3.out) (fun hH3 => ?_)
        clear hK K t c0 c1 c2 c3 c4 c5 f0 f1 f2 f3 f4 f5
        obtain ⟨w3, hw⟩ : ∃ z9, z9 = ((((((w2.setCell ⟨k7, 0, none⟩ (.int .i64 (up u.s))).setCell ⟨k7, 1, none⟩ (.bool u.k)).setCell ⟨k7, 2, none⟩ (.int .i64 u.n)).setCell ⟨k7, 3, none⟩ (.int .i64 u.lo)).setCell ⟨k7, 4, none⟩ (.int .i64 u.hi)).setCell ⟨k7, 5, none⟩ (.int .i64 (up u.p))) := ⟨_, rfl⟩
        rw [← hw] at hH3 b3 B ⊢
        clear hw
        refine wpAnyH_take (i := 15) (oi := ({ dst := some 8, op := Op.assign (Operand.tmp 24), type := 3, pos := _, after := _, guard := _ } : Oper)) (v := ?_) rfl (by kernel_rfl) (by kernel_rfl) (by kernel_rfl) (fun c a w h => hP c a _ _ w h) (Or.inl ⟨by rfl, ?_⟩) (by assumption) ?_
        rotate_left
        · (intro wz hSw; (try dsimp only at hSw); go_simp; try with_reducible rfl)
        simp only [Act.put, List.setIfInBounds_toArray, List.set_cons_zero, List.set_cons_succ]
        refine wpAnyH_take (i := 16) (oi := ({ dst := some 9, op := Op.assign (Operand.tmp 29), type := 3, pos := _, after := _, guard := _ } : Oper)) (v := ?_) rfl (by kernel_rfl) (by kernel_rfl) (by kernel_rfl) (fun c a w h => hP c a _ _ w h) (Or.inl ⟨by rfl, ?_⟩) (by assumption) ?_
        rotate_left
        · (intro wz hSw; (try dsimp only at hSw); go_simp; try with_reducible rfl)
        simp only [Act.put, List.setIfInBounds_toArray, List.set_cons_zero, List.set_cons_succ]
        refine wpAnyH_done (by kernel_rfl) ?_ _
        exact HQ.out _ _ _ _ _ _ _ _ _ _ _ _ _ _ _ _ _ B Z1.out Z2.out b3.out
end Go.Proofs.Ytmhicllhjiglkaa
