import Derived.Test.YthiacdbjlkpfgaaDoorG02
import Derived.Test.YthiacdbjlkpfgaaDoorG04
import Derived.Test.YthiacdbjlkpfgaaDoorG03
import Derived.WalkKit
import Derived.WalkSpells
import Derived.ProofKit
import Derived.Below
namespace Go.Proofs.YthiacdbjlkpfgaaDoor
open Go.RowKit
set_option maxRecDepth 100000 in
set_option maxHeartbeats 16000000 in
theorem join_V (x y : V) (w : World) (hx : x.p &&& 3 = x.p) (hy : y.p &&& 3 = y.p) : Calls Tryd.prog 14 #[.agg #[.int .i64 (up x.s), .bool x.k, .int .i64 x.n, .int .i64 x.lo, .int .i64 x.hi, .int .i64 (up x.p)], .agg #[.int .i64 (up y.s), .bool y.k, .int .i64 y.n, .int .i64 y.lo, .int .i64 y.hi, .int .i64 (up y.p)]] w fun e w' => e = .returned (.agg #[.int .i64 (up (joinV x y).s), .bool (joinV x y).k, .int .i64 (joinV x y).n, .int .i64 (joinV x y).lo, .int .i64 (joinV x y).hi, .int .i64 (up (joinV x y).p)]) ∧ Below w.heap.size w w' := by
  have x0 : Br (((w.alloc (.cells #[.int .i64 (up x.s), .bool x.k, .int .i64 x.n, .int .i64 x.lo, .int .i64 x.hi, .int .i64 (up x.p)] 33)).alloc (.cells #[.int .i64 (up y.s), .bool y.k, .int .i64 y.n, .int .i64 y.lo, .int .i64 y.hi, .int .i64 (up y.p)] 33)).alloc (.cells #[.int .i64 0, .bool false, .int .i64 0, .int .i64 0, .int .i64 0, .int .i64 0] 33)) (w.heap.size) (up x.s) x.k x.n x.lo x.hi (up x.p) := (((Br.new w (up x.s) x.k x.n x.lo x.hi (up x.p) 33)).keep ((Below.refl _ _).alloc (Nat.le_refl _) _)).keep ((Below.refl _ _).alloc (Nat.le_refl _) _)
  have x1 : Br (((w.alloc (.cells #[.int .i64 (up x.s), .bool x.k, .int .i64 x.n, .int .i64 x.lo, .int .i64 x.hi, .int .i64 (up x.p)] 33)).alloc (.cells #[.int .i64 (up y.s), .bool y.k, .int .i64 y.n, .int .i64 y.lo, .int .i64 y.hi, .int .i64 (up y.p)] 33)).alloc (.cells #[.int .i64 0, .bool false, .int .i64 0, .int .i64 0, .int .i64 0, .int .i64 0] 33)) (w.heap.size + 1) (up y.s) y.k y.n y.lo y.hi (up y.p) := ((by simpa using Br.new (w.alloc (.cells #[.int .i64 (up x.s), .bool x.k, .int .i64 x.n, .int .i64 x.lo, .int .i64 x.hi, .int .i64 (up x.p)] 33)) (up y.s) y.k y.n y.lo y.hi (up y.p) 33 : Br ((w.alloc (.cells #[.int .i64 (up x.s), .bool x.k, .int .i64 x.n, .int .i64 x.lo, .int .i64 x.hi, .int .i64 (up x.p)] 33)).alloc (.cells #[.int .i64 (up y.s), .bool y.k, .int .i64 y.n, .int .i64 y.lo, .int .i64 y.hi, .int .i64 (up y.p)] 33)) (w.heap.size + 1) (up y.s) y.k y.n y.lo y.hi (up y.p))).keep ((Below.refl _ _).alloc (Nat.le_refl _) _)
  have x2 : Br (((w.alloc (.cells #[.int .i64 (up x.s), .bool x.k, .int .i64 x.n, .int .i64 x.lo, .int .i64 x.hi, .int .i64 (up x.p)] 33)).alloc (.cells #[.int .i64 (up y.s), .bool y.k, .int .i64 y.n, .int .i64 y.lo, .int .i64 y.hi, .int .i64 (up y.p)] 33)).alloc (.cells #[.int .i64 0, .bool false, .int .i64 0, .int .i64 0, .int .i64 0, .int .i64 0] 33)) (w.heap.size + 1 + 1) 0 false 0 0 0 0 := (by simpa using Br.new ((w.alloc (.cells #[.int .i64 (up x.s), .bool x.k, .int .i64 x.n, .int .i64 x.lo, .int .i64 x.hi, .int .i64 (up x.p)] 33)).alloc (.cells #[.int .i64 (up y.s), .bool y.k, .int .i64 y.n, .int .i64 y.lo, .int .i64 y.hi, .int .i64 (up y.p)] 33)) 0 false 0 0 0 0 33 : Br (((w.alloc (.cells #[.int .i64 (up x.s), .bool x.k, .int .i64 x.n, .int .i64 x.lo, .int .i64 x.hi, .int .i64 (up x.p)] 33)).alloc (.cells #[.int .i64 (up y.s), .bool y.k, .int .i64 y.n, .int .i64 y.lo, .int .i64 y.hi, .int .i64 (up y.p)] 33)).alloc (.cells #[.int .i64 0, .bool false, .int .i64 0, .int .i64 0, .int .i64 0, .int .i64 0] 33)) (w.heap.size + 1 + 1) 0 false 0 0 0 0)
  have xf : Fz (((w.alloc (.cells #[.int .i64 (up x.s), .bool x.k, .int .i64 x.n, .int .i64 x.lo, .int .i64 x.hi, .int .i64 (up x.p)] 33)).alloc (.cells #[.int .i64 (up y.s), .bool y.k, .int .i64 y.n, .int .i64 y.lo, .int .i64 y.hi, .int .i64 (up y.p)] 33)).alloc (.cells #[.int .i64 0, .bool false, .int .i64 0, .int .i64 0, .int .i64 0, .int .i64 0] 33)) (w.heap.size + 1 + 1) := by simpa using Fz.new ((w.alloc (.cells #[.int .i64 (up x.s), .bool x.k, .int .i64 x.n, .int .i64 x.lo, .int .i64 x.hi, .int .i64 (up x.p)] 33)).alloc (.cells #[.int .i64 (up y.s), .bool y.k, .int .i64 y.n, .int .i64 y.lo, .int .i64 y.hi, .int .i64 (up y.p)] 33)) 0 false 0 0 0 0 33
  have xb : Below w.heap.size w (((w.alloc (.cells #[.int .i64 (up x.s), .bool x.k, .int .i64 x.n, .int .i64 x.lo, .int .i64 x.hi, .int .i64 (up x.p)] 33)).alloc (.cells #[.int .i64 (up y.s), .bool y.k, .int .i64 y.n, .int .i64 y.lo, .int .i64 y.hi, .int .i64 (up y.p)] 33)).alloc (.cells #[.int .i64 0, .bool false, .int .i64 0, .int .i64 0, .int .i64 0, .int .i64 0] 33)) := (by repeat (first | exact Below.refl _ _ | (refine Below.drew ?_) | (refine below_drewN ?_ _) | (refine Below.setCell ?_ (by first | omega | (simp; done) | (simp; omega)) _) | (refine Below.alloc ?_ (by first | omega | (simp; done) | (simp; omega)) _) | (refine Below.trans ?_ (Below.mono (by assumption) (by first | omega | (simp; done) | (simp; omega))))))
  go_enter Tryd.func14, Tryd.ntmps14
  go_upto_region 1 with fail
  go_name_world W hW
  rw [hW] at x0 x1 x2 xf xb
  clear hW
  obtain ⟨N, hN⟩ : ∃ N, N = w.heap.size := ⟨_, rfl⟩
  rw [← hN] at x0 x1 x2 xf xb ⊢
  have HN : Hid (N = w.heap.size) := hN
  clear hN
  have HCL : Hid (∀ a b : World, (a.cell? ⟨N, 0, none⟩ = some (.int .i64 (up x.s)) ∧ a.cell? ⟨N, 1, none⟩ = some (.bool x.k) ∧ a.cell? ⟨N, 2, none⟩ = some (.int .i64 x.n) ∧ a.cell? ⟨N, 3, none⟩ = some (.int .i64 x.lo) ∧ a.cell? ⟨N, 4, none⟩ = some (.int .i64 x.hi) ∧ a.cell? ⟨N, 5, none⟩ = some (.int .i64 (up x.p)) ∧ a.cell? ⟨(N + 1), 0, none⟩ = some (.int .i64 (up y.s)) ∧ a.cell? ⟨(N + 1), 1, none⟩ = some (.bool y.k) ∧ a.cell? ⟨(N + 1), 2, none⟩ = some (.int .i64 y.n) ∧ a.cell? ⟨(N + 1), 3, none⟩ = some (.int .i64 y.lo) ∧ a.cell? ⟨(N + 1), 4, none⟩ = some (.int .i64 y.hi) ∧ a.cell? ⟨(N + 1), 5, none⟩ = some (.int .i64 (up y.p)) ∧ Hid (Br a N (up x.s) x.k x.n x.lo x.hi (up x.p) ∧ Br a (N + 1) (up y.s) y.k y.n y.lo y.hi (up y.p) ∧ Rw a (N + 1 + 1) ∧ Below N w a)) → Below a.heap.size a b → (b.cell? ⟨N, 0, none⟩ = some (.int .i64 (up x.s)) ∧ b.cell? ⟨N, 1, none⟩ = some (.bool x.k) ∧ b.cell? ⟨N, 2, none⟩ = some (.int .i64 x.n) ∧ b.cell? ⟨N, 3, none⟩ = some (.int .i64 x.lo) ∧ b.cell? ⟨N, 4, none⟩ = some (.int .i64 x.hi) ∧ b.cell? ⟨N, 5, none⟩ = some (.int .i64 (up x.p)) ∧ b.cell? ⟨(N + 1), 0, none⟩ = some (.int .i64 (up y.s)) ∧ b.cell? ⟨(N + 1), 1, none⟩ = some (.bool y.k) ∧ b.cell? ⟨(N + 1), 2, none⟩ = some (.int .i64 y.n) ∧ b.cell? ⟨(N + 1), 3, none⟩ = some (.int .i64 y.lo) ∧ b.cell? ⟨(N + 1), 4, none⟩ = some (.int .i64 y.hi) ∧ b.cell? ⟨(N + 1), 5, none⟩ = some (.int .i64 (up y.p)) ∧ Hid (Br b N (up x.s) x.k x.n x.lo x.hi (up x.p) ∧ Br b (N + 1) (up y.s) y.k y.n y.lo y.hi (up y.p) ∧ Rw b (N + 1 + 1) ∧ Below N w b))) := fun a b h hb => by
    have y9 := (h.2.2.2.2.2.2.2.2.2.2.2.2).out
    have z9 : Br b N (up x.s) x.k x.n x.lo x.hi (up x.p) ∧ Br b (N + 1) (up y.s) y.k y.n y.lo y.hi (up y.p) ∧ Rw b (N + 1 + 1) ∧ Below N w b := ⟨y9.1.keep hb, y9.2.1.keep hb, y9.2.2.1.keep hb, y9.2.2.2.trans (hb.mono (Nat.le_of_lt y9.1.lt))⟩
    exact ⟨z9.1.c0, z9.1.c1, z9.1.c2, z9.1.c3, z9.1.c4, z9.1.c5, z9.2.1.c0, z9.2.1.c1, z9.2.1.c2, z9.2.1.c3, z9.2.1.c4, z9.2.1.c5, z9⟩
  have z0 : Br W N (up x.s) x.k x.n x.lo x.hi (up x.p) ∧ Br W (N + 1) (up y.s) y.k y.n y.lo y.hi (up y.p) ∧ Rw W (N + 1 + 1) ∧ Below N w W := ⟨x0, x1, ⟨_, _, _, _, _, _, x2, xf⟩, xb⟩
  have hS0 : W.cell? ⟨N, 0, none⟩ = some (.int .i64 (up x.s)) ∧ W.cell? ⟨N, 1, none⟩ = some (.bool x.k) ∧ W.cell? ⟨N, 2, none⟩ = some (.int .i64 x.n) ∧ W.cell? ⟨N, 3, none⟩ = some (.int .i64 x.lo) ∧ W.cell? ⟨N, 4, none⟩ = some (.int .i64 x.hi) ∧ W.cell? ⟨N, 5, none⟩ = some (.int .i64 (up x.p)) ∧ W.cell? ⟨(N + 1), 0, none⟩ = some (.int .i64 (up y.s)) ∧ W.cell? ⟨(N + 1), 1, none⟩ = some (.bool y.k) ∧ W.cell? ⟨(N + 1), 2, none⟩ = some (.int .i64 y.n) ∧ W.cell? ⟨(N + 1), 3, none⟩ = some (.int .i64 y.lo) ∧ W.cell? ⟨(N + 1), 4, none⟩ = some (.int .i64 y.hi) ∧ W.cell? ⟨(N + 1), 5, none⟩ = some (.int .i64 (up y.p)) ∧ Hid (Br W N (up x.s) x.k x.n x.lo x.hi (up x.p) ∧ Br W (N + 1) (up y.s) y.k y.n y.lo y.hi (up y.p) ∧ Rw W (N + 1 + 1) ∧ Below N w W) := ⟨z0.1.c0, z0.1.c1, z0.1.c2, z0.1.c3, z0.1.c4, z0.1.c5, z0.2.1.c0, z0.2.1.c1, z0.2.1.c2, z0.2.1.c3, z0.2.1.c4, z0.2.1.c5, z0⟩
  clear x0 x1 x2 xf xb z0
  refine wp_region_held_drew (S := fun w' => w'.cell? ⟨N, 0, none⟩ = some (.int .i64 (up x.s)) ∧ w'.cell? ⟨N, 1, none⟩ = some (.bool x.k) ∧ w'.cell? ⟨N, 2, none⟩ = some (.int .i64 x.n) ∧ w'.cell? ⟨N, 3, none⟩ = some (.int .i64 x.lo) ∧ w'.cell? ⟨N, 4, none⟩ = some (.int .i64 x.hi) ∧ w'.cell? ⟨N, 5, none⟩ = some (.int .i64 (up x.p)) ∧ w'.cell? ⟨(N + 1), 0, none⟩ = some (.int .i64 (up y.s)) ∧ w'.cell? ⟨(N + 1), 1, none⟩ = some (.bool y.k) ∧ w'.cell? ⟨(N + 1), 2, none⟩ = some (.int .i64 y.n) ∧ w'.cell? ⟨(N + 1), 3, none⟩ = some (.int .i64 y.lo) ∧ w'.cell? ⟨(N + 1), 4, none⟩ = some (.int .i64 y.hi) ∧ w'.cell? ⟨(N + 1), 5, none⟩ = some (.int .i64 (up y.p)) ∧ Hid (Br w' N (up x.s) x.k x.n x.lo x.hi (up x.p) ∧ Br w' (N + 1) (up y.s) y.k y.n y.lo y.hi (up y.p) ∧ Rw w' (N + 1 + 1) ∧ Below N w w')) (by kernel_rfl) (HCL.out _ _ hS0 ((Below.refl _ _).drew)) (fun hHeld => ?_)
  refine wpAnyH_take (i := 0) (oi := ({ dst := some 5, op := Op.fieldAddr 33 (Operand.tmp 2) 0, type := 0, pos := "fact.go:46", after := #[], guard := none } : Oper)) (v := ?_) rfl (by kernel_rfl) (by kernel_rfl) (by kernel_rfl) (fun _ _ _ h => h) (Or.inl ⟨by rfl, ?_⟩) (by assumption) ?_
  rotate_left
  · (intro wz hSw; (try dsimp only at hSw); go_simp; try with_reducible rfl)
  simp only [Act.put, List.setIfInBounds_toArray, List.set_cons_zero, List.set_cons_succ]
  refine wpAnyH_take (i := 1) (oi := ({ dst := some 6, op := Op.load 3 (Operand.tmp 5), type := 3, pos := "fact.go:46", after := #[{ on := 0, ground := Ground.data }], guard := none } : Oper)) (v := ?_) rfl (by kernel_rfl) (by kernel_rfl) (by kernel_rfl) (fun _ _ _ h => h) (Or.inl ⟨by rfl, ?_⟩) (by assumption) ?_
  rotate_left
  · (intro wz hSw; (try dsimp only at hSw); go_simp; try with_reducible rfl)
  simp only [Act.put, List.setIfInBounds_toArray, List.set_cons_zero, List.set_cons_succ]
  refine wpAnyH_take (i := 2) (oi := ({ dst := some 7, op := Op.fieldAddr 33 (Operand.tmp 3) 0, type := 0, pos := "fact.go:46", after := #[], guard := none } : Oper)) (v := ?_) rfl (by kernel_rfl) (by kernel_rfl) (by kernel_rfl) (fun _ _ _ h => h) (Or.inl ⟨by rfl, ?_⟩) (by assumption) ?_
  rotate_left
  · (intro wz hSw; (try dsimp only at hSw); go_simp; try with_reducible rfl)
  simp only [Act.put, List.setIfInBounds_toArray, List.set_cons_zero, List.set_cons_succ]
  refine wpAnyH_take (i := 3) (oi := ({ dst := some 8, op := Op.load 3 (Operand.tmp 7), type := 3, pos := "fact.go:46", after := #[{ on := 2, ground := Ground.data }], guard := none } : Oper)) (v := ?_) rfl (by kernel_rfl) (by kernel_rfl) (by kernel_rfl) (fun _ _ _ h => h) (Or.inl ⟨by rfl, ?_⟩) (by assumption) ?_
  rotate_left
  · (intro wz hSw; (try dsimp only at hSw); go_simp; try with_reducible rfl)
  simp only [Act.put, List.setIfInBounds_toArray, List.set_cons_zero, List.set_cons_succ]
  refine wpAnyH_take (i := 5) (oi := ({ dst := some 10, op := Op.fieldAddr 33 (Operand.tmp 2) 1, type := 0, pos := "fact.go:46", after := #[], guard := none } : Oper)) (v := ?_) rfl (by kernel_rfl) (by kernel_rfl) (by kernel_rfl) (fun _ _ _ h => h) (Or.inl ⟨by rfl, ?_⟩) (by assumption) ?_
  rotate_left
  · (intro wz hSw; (try dsimp only at hSw); go_simp; try with_reducible rfl)
  simp only [Act.put, List.setIfInBounds_toArray, List.set_cons_zero, List.set_cons_succ]
  refine wpAnyH_take (i := 6) (oi := ({ dst := some 11, op := Op.load 30 (Operand.tmp 10), type := 30, pos := "fact.go:46", after := #[{ on := 5, ground := Ground.data }], guard := none } : Oper)) (v := ?_) rfl (by kernel_rfl) (by kernel_rfl) (by kernel_rfl) (fun _ _ _ h => h) (Or.inl ⟨by rfl, ?_⟩) (by assumption) ?_
  rotate_left
  · (intro wz hSw; (try dsimp only at hSw); go_simp; try with_reducible rfl)
  simp only [Act.put, List.setIfInBounds_toArray, List.set_cons_zero, List.set_cons_succ]
  refine wpAnyH_take (i := 7) (oi := ({ dst := some 12, op := Op.fieldAddr 33 (Operand.tmp 3) 1, type := 0, pos := "fact.go:46", after := #[], guard := none } : Oper)) (v := ?_) rfl (by kernel_rfl) (by kernel_rfl) (by kernel_rfl) (fun _ _ _ h => h) (Or.inl ⟨by rfl, ?_⟩) (by assumption) ?_
  rotate_left
  · (intro wz hSw; (try dsimp only at hSw); go_simp; try with_reducible rfl)
  simp only [Act.put, List.setIfInBounds_toArray, List.set_cons_zero, List.set_cons_succ]
  refine wpAnyH_take (i := 8) (oi := ({ dst := some 13, op := Op.load 30 (Operand.tmp 12), type := 30, pos := "fact.go:46", after := #[{ on := 7, ground := Ground.data }], guard := none } : Oper)) (v := ?_) rfl (by kernel_rfl) (by kernel_rfl) (by kernel_rfl) (fun _ _ _ h => h) (Or.inl ⟨by rfl, ?_⟩) (by assumption) ?_
  rotate_left
  · (intro wz hSw; (try dsimp only at hSw); go_simp; try with_reducible rfl)
  simp only [Act.put, List.setIfInBounds_toArray, List.set_cons_zero, List.set_cons_succ]
  refine wpAnyH_take (i := 10) (oi := ({ dst := some 15, op := Op.fieldAddr 33 (Operand.tmp 2) 2, type := 0, pos := "fact.go:46", after := #[], guard := none } : Oper)) (v := ?_) rfl (by kernel_rfl) (by kernel_rfl) (by kernel_rfl) (fun _ _ _ h => h) (Or.inl ⟨by rfl, ?_⟩) (by assumption) ?_
  rotate_left
  · (intro wz hSw; (try dsimp only at hSw); go_simp; try with_reducible rfl)
  simp only [Act.put, List.setIfInBounds_toArray, List.set_cons_zero, List.set_cons_succ]
  refine wpAnyH_take (i := 11) (oi := ({ dst := some 16, op := Op.load 31 (Operand.tmp 15), type := 31, pos := "fact.go:46", after := #[{ on := 10, ground := Ground.data }], guard := none } : Oper)) (v := ?_) rfl (by kernel_rfl) (by kernel_rfl) (by kernel_rfl) (fun _ _ _ h => h) (Or.inl ⟨by rfl, ?_⟩) (by assumption) ?_
  rotate_left
  · (intro wz hSw; (try dsimp only at hSw); go_simp; try with_reducible rfl)
  simp only [Act.put, List.setIfInBounds_toArray, List.set_cons_zero, List.set_cons_succ]
  refine wpAnyH_take (i := 12) (oi := ({ dst := some 17, op := Op.fieldAddr 33 (Operand.tmp 3) 2, type := 0, pos := "fact.go:46", after := #[], guard := none } : Oper)) (v := ?_) rfl (by kernel_rfl) (by kernel_rfl) (by kernel_rfl) (fun _ _ _ h => h) (Or.inl ⟨by rfl, ?_⟩) (by assumption) ?_
  rotate_left
  · (intro wz hSw; (try dsimp only at hSw); go_simp; try with_reducible rfl)
  simp only [Act.put, List.setIfInBounds_toArray, List.set_cons_zero, List.set_cons_succ]
  refine wpAnyH_take (i := 13) (oi := ({ dst := some 18, op := Op.load 31 (Operand.tmp 17), type := 31, pos := "fact.go:46", after := #[{ on := 12, ground := Ground.data }], guard := none } : Oper)) (v := ?_) rfl (by kernel_rfl) (by kernel_rfl) (by kernel_rfl) (fun _ _ _ h => h) (Or.inl ⟨by rfl, ?_⟩) (by assumption) ?_
  rotate_left
  · (intro wz hSw; (try dsimp only at hSw); go_simp; try with_reducible rfl)
  simp only [Act.put, List.setIfInBounds_toArray, List.set_cons_zero, List.set_cons_succ]
  refine wpAnyH_take (i := 15) (oi := ({ dst := some 20, op := Op.fieldAddr 33 (Operand.tmp 2) 3, type := 0, pos := "fact.go:46", after := #[], guard := none } : Oper)) (v := ?_) rfl (by kernel_rfl) (by kernel_rfl) (by kernel_rfl) (fun _ _ _ h => h) (Or.inl ⟨by rfl, ?_⟩) (by assumption) ?_
  rotate_left
  · (intro wz hSw; (try dsimp only at hSw); go_simp; try with_reducible rfl)
  simp only [Act.put, List.setIfInBounds_toArray, List.set_cons_zero, List.set_cons_succ]
  refine wpAnyH_take (i := 16) (oi := ({ dst := some 21, op := Op.load 3 (Operand.tmp 20), type := 3, pos := "fact.go:46", after := #[{ on := 15, ground := Ground.data }], guard := none } : Oper)) (v := ?_) rfl (by kernel_rfl) (by kernel_rfl) (by kernel_rfl) (fun _ _ _ h => h) (Or.inl ⟨by rfl, ?_⟩) (by assumption) ?_
  rotate_left
  · (intro wz hSw; (try dsimp only at hSw); go_simp; try with_reducible rfl)
  simp only [Act.put, List.setIfInBounds_toArray, List.set_cons_zero, List.set_cons_succ]
  refine wpAnyH_take (i := 17) (oi := ({ dst := some 22, op := Op.fieldAddr 33 (Operand.tmp 3) 3, type := 0, pos := "fact.go:46", after := #[], guard := none } : Oper)) (v := ?_) rfl (by kernel_rfl) (by kernel_rfl) (by kernel_rfl) (fun _ _ _ h => h) (Or.inl ⟨by rfl, ?_⟩) (by assumption) ?_
  rotate_left
  · (intro wz hSw; (try dsimp only at hSw); go_simp; try with_reducible rfl)
  simp only [Act.put, List.setIfInBounds_toArray, List.set_cons_zero, List.set_cons_succ]
  refine wpAnyH_take (i := 18) (oi := ({ dst := some 23, op := Op.load 3 (Operand.tmp 22), type := 3, pos := "fact.go:46", after := #[{ on := 17, ground := Ground.data }], guard := none } : Oper)) (v := ?_) rfl (by kernel_rfl) (by kernel_rfl) (by kernel_rfl) (fun _ _ _ h => h) (Or.inl ⟨by rfl, ?_⟩) (by assumption) ?_
  rotate_left
  · (intro wz hSw; (try dsimp only at hSw); go_simp; try with_reducible rfl)
  simp only [Act.put, List.setIfInBounds_toArray, List.set_cons_zero, List.set_cons_succ]
  refine wpAnyH_ready (rs := [4]) (by kernel_rfl) (by simp) ?_
  refine AllReadyH.cons (o := ({ dst := some 9, op := Op.call { callee := Callee.value (Operand.func 41), args := #[Operand.tmp 6, Operand.tmp 8], argTypes := #[3, 3] }, type := 3, pos := "fact.go:47", after := #[{ on := 1, ground := Ground.data }, { on := 3, ground := Ground.data }], guard := none } : Oper)) rfl (fun K hK => ?_) AllReadyH.nil
  go_simp
  go_at_call 41
  refine (lift (sjoinB _ _ _) (by assumption) HCL.out).mono ?_
  rintro e v1 ⟨rfl, g1⟩
  refine hK.out _ _ g1 (fun hHeld => ?_)
  clear hK K
  refine wpAnyH_ready (rs := [9]) (by kernel_rfl) (by simp) ?_
  refine AllReadyH.cons (o := ({ dst := some 14, op := Op.call { callee := Callee.value (Operand.func 42), args := #[Operand.tmp 11, Operand.tmp 13], argTypes := #[30, 30] }, type := 30, pos := "fact.go:48", after := #[{ on := 6, ground := Ground.data }, { on := 8, ground := Ground.data }, { on := 4, ground := Ground.chain }], guard := none } : Oper)) rfl (fun K hK => ?_) AllReadyH.nil
  go_simp
  go_at_call 42
  refine (lift (kjoin_any _ _ _ _ _) (by assumption) HCL.out).mono ?_
  rintro e v2 ⟨rfl, g2⟩
  refine hK.out _ _ g2 (fun hHeld => ?_)
  clear hK K
  refine wpAnyH_ready (rs := [14]) (by kernel_rfl) (by simp) ?_
  refine AllReadyH.cons (o := ({ dst := some 19, op := Op.call { callee := Callee.value (Operand.func 43), args := #[Operand.tmp 16, Operand.tmp 18], argTypes := #[31, 31] }, type := 31, pos := "fact.go:49", after := #[{ on := 11, ground := Ground.data }, { on := 13, ground := Ground.data }, { on := 9, ground := Ground.chain }], guard := none } : Oper)) rfl (fun K hK => ?_) AllReadyH.nil
  go_simp
  go_at_call 43
  refine (lift (bel3 (njoin_any _ _ _ _ _)) (by assumption) HCL.out).mono ?_
  rintro e v3 ⟨rfl, g3⟩
  refine hK.out _ _ g3 (fun hHeld => ?_)
  clear hK K
  refine wpAnyH_ready (rs := [19]) (by kernel_rfl) (by simp) ?_
  refine AllReadyH.cons (o := ({ dst := some 24, op := Op.call { callee := Callee.value (Operand.func 44), args := #[Operand.tmp 21, Operand.tmp 23], argTypes := #[3, 3] }, type := 3, pos := "fact.go:50", after := #[{ on := 16, ground := Ground.data }, { on := 18, ground := Ground.data }, { on := 14, ground := Ground.chain }], guard := none } : Oper)) rfl (fun K hK => ?_) AllReadyH.nil
  go_simp
  go_at_call 44
  refine (lift (pjoinB _ _ _ hx hy) (by assumption) HCL.out).mono ?_
  rintro e v4 ⟨rfl, g4⟩
  refine hK.out _ _ g4 (fun hHeld => ?_)
  clear hK K
  refine wpAnyH_take (i := 20) (oi := ({ dst := some 25, op := Op.build 33 #[(0, Operand.tmp 9), (1, Operand.tmp 14), (2, Operand.tmp 19), (3, Operand.tmp 24)], type := 33, pos := "fact.go:46", after := #[{ on := 4, ground := Ground.data }, { on := 9, ground := Ground.data }, { on := 14, ground := Ground.data }, { on := 19, ground := Ground.data }], guard := none } : Oper)) (v := ?_) rfl (by kernel_rfl) (by kernel_rfl) (by kernel_rfl) (fun _ _ _ h => h) (Or.inl ⟨by rfl, ?_⟩) (by assumption) ?_
  rotate_left
  · (intro wz hSw; (try dsimp only at hSw); go_simp; try with_reducible rfl)
  simp only [Act.put, List.setIfInBounds_toArray, List.set_cons_zero, List.set_cons_succ]
  refine wpAnyH_ready (rs := [21]) (by kernel_rfl) (by simp) ?_
  refine AllReadyH.cons (o := ({ dst := none, op := Op.store 33 (Operand.tmp 4) (Operand.tmp 25), type := 0, pos := "fact.go:46", after := #[{ on := 20, ground := Ground.data }, { on := 19, ground := Ground.chain }, { on := 0, ground := Ground.phase }, { on := 1, ground := Ground.phase }, { on := 2, ground := Ground.phase }, { on := 3, ground := Ground.phase }, { on := 4, ground := Ground.phase }, { on := 5, ground := Ground.phase }, { on := 6, ground := Ground.phase }, { on := 7, ground := Ground.phase }, { on := 8, ground := Ground.phase }, { on := 9, ground := Ground.phase }, { on := 10, ground := Ground.phase }, { on := 11, ground := Ground.phase }, { on := 12, ground := Ground.phase }, { on := 13, ground := Ground.phase }, { on := 14, ground := Ground.phase }, { on := 15, ground := Ground.phase }, { on := 16, ground := Ground.phase }, { on := 17, ground := Ground.phase }, { on := 18, ground := Ground.phase }, { on := 19, ground := Ground.phase }, { on := 20, ground := Ground.phase }], guard := none } : Oper)) rfl (fun K hK => ?_) AllReadyH.nil
  have zz := (hHeld.2.2.2.2.2.2.2.2.2.2.2.2).out
  obtain ⟨s9, k9, n9, lo9, hi9, p9, zb, zf⟩ := zz.2.2.1
  have zc0 := zb.c0
  have zf0 := zf.f0
  have zc1 := zb.c1
  have zf1 := zf.f1
  have zc2 := zb.c2
  have zf2 := zf.f2
  have zc3 := zb.c3
  have zf3 := zf.f3
  have zc4 := zb.c4
  have zf4 := zf.f4
  have zc5 := zb.c5
  have zf5 := zf.f5
  go_simp
  have zw := zb.wrote (up (x.s ||| y.s)) (joinI x.k x.n y.k y.n) (joinN x.k x.n y.k y.n) (min x.lo y.lo) (max x.hi y.hi) (up (x.p ||| y.p))
  have zi : Br (st6 v4 (N + 1 + 1) (.int .i64 (up (x.s ||| y.s))) (.bool (joinI x.k x.n y.k y.n)) (.int .i64 (joinN x.k x.n y.k y.n)) (.int .i64 (min x.lo y.lo)) (.int .i64 (max x.hi y.hi)) (.int .i64 (up (x.p ||| y.p)))) N (up x.s) x.k x.n x.lo x.hi (up x.p) ∧ Br (st6 v4 (N + 1 + 1) (.int .i64 (up (x.s ||| y.s))) (.bool (joinI x.k x.n y.k y.n)) (.int .i64 (joinN x.k x.n y.k y.n)) (.int .i64 (min x.lo y.lo)) (.int .i64 (max x.hi y.hi)) (.int .i64 (up (x.p ||| y.p)))) (N + 1) (up y.s) y.k y.n y.lo y.hi (up y.p) ∧ Rw (st6 v4 (N + 1 + 1) (.int .i64 (up (x.s ||| y.s))) (.bool (joinI x.k x.n y.k y.n)) (.int .i64 (joinN x.k x.n y.k y.n)) (.int .i64 (min x.lo y.lo)) (.int .i64 (max x.hi y.hi)) (.int .i64 (up (x.p ||| y.p)))) (N + 1 + 1) ∧ Below N w (st6 v4 (N + 1 + 1) (.int .i64 (up (x.s ||| y.s))) (.bool (joinI x.k x.n y.k y.n)) (.int .i64 (joinN x.k x.n y.k y.n)) (.int .i64 (min x.lo y.lo)) (.int .i64 (max x.hi y.hi)) (.int .i64 (up (x.p ||| y.p)))) := ⟨zz.1.put (by omega) _ _ _ _ _ _, zz.2.1.put (by omega) _ _ _ _ _ _, zz.2.2.1.put (up (x.s ||| y.s)) (joinI x.k x.n y.k y.n) (joinN x.k x.n y.k y.n) (min x.lo y.lo) (max x.hi y.hi) (up (x.p ||| y.p)), st6_below zz.2.2.2 _ (by omega) _ _ _ _ _ _⟩
  refine hK.out _ _ ⟨zi.1.c0, zi.1.c1, zi.1.c2, zi.1.c3, zi.1.c4, zi.1.c5, zi.2.1.c0, zi.2.1.c1, zi.2.1.c2, zi.2.1.c3, zi.2.1.c4, zi.2.1.c5, zi⟩ (fun _ => ?_)
  clear hK K zc0 zf0 zc1 zf1 zc2 zf2 zc3 zf3 zc4 zf4 zc5 zf5
  refine wpAnyH_done (by kernel_rfl) ?_ _
  clear hS0 HCL hHeld g1 g2 g3 g4
  have c0 := zw.c0
  have c1 := zw.c1
  have c2 := zw.c2
  have c3 := zw.c3
  have c4 := zw.c4
  have c5 := zw.c5
  have hB := zi.2.2.2
  clear zi zw zb zf zz
  go_wp2_with fail
  refine bodyPost_ret (by simp [results, Tryd.results14, go_sem, *]; try rfl) rfl ⟨?_, by rw [← HN.out]; exact hB⟩
  rfl
end Go.Proofs.YthiacdbjlkpfgaaDoor
namespace Go.Proofs.YthiacdbjlkpfgaaDoor
open Go.RowKit
theorem up4 : up 4#3 = 4 := rfl
theorem up1 : up 1#3 = 1 := rfl
theorem told_j (w : World) : Calls Tryd.prog 14 #[.agg #[.int .i64 (up (ofV 2).s), .bool (ofV 2).k, .int .i64 (ofV 2).n, .int .i64 (ofV 2).lo, .int .i64 (ofV 2).hi, .int .i64 (up (ofV 2).p)], .agg #[.int .i64 (up (ofV 4).s), .bool (ofV 4).k, .int .i64 (ofV 4).n, .int .i64 (ofV 4).lo, .int .i64 (ofV 4).hi, .int .i64 (up (ofV 4).p)]] w fun e w' => e = .returned (.agg #[.int .i64 4, .bool false, .int .i64 0, .int .i64 2, .int .i64 4, .int .i64 1]) ∧ Below w.heap.size w w' := by
  have h := join_V (ofV 2) (ofV 4) w (by decide) (by decide)
  have e : joinV (ofV 2) (ofV 4) = ⟨4#3, false, 0, 2, 4, 1#3⟩ := V.ext' (by decide) (by decide) (by decide) (by decide) (by decide) (by decide)
  rw [e] at h
  dsimp only at h
  rw [up4, up1] at h
  exact h
theorem told_m (w : World) : Calls Tryd.prog 22 #[.agg #[.int .i64 (up (ofV 2).s), .bool (ofV 2).k, .int .i64 (ofV 2).n, .int .i64 (ofV 2).lo, .int .i64 (ofV 2).hi, .int .i64 (up (ofV 2).p)], .agg #[.int .i64 (up (ofV 3).s), .bool (ofV 3).k, .int .i64 (ofV 3).n, .int .i64 (ofV 3).lo, .int .i64 (ofV 3).hi, .int .i64 (up (ofV 3).p)]] w fun e w' => e = .returned (.tuple #[.agg #[.int .i64 0, .bool false, .int .i64 0, .int .i64 0, .int .i64 0, .int .i64 0], .bool false]) ∧ Below w.heap.size w w' := by
  have h := meet_V (ofV 2) (ofV 3) w (by decide) (by decide)
  have e : meetV (ofV 2) (ofV 3) = (zeroV, false) := by unfold meetV; rw [if_neg (by decide)]
  rw [e] at h
  exact h
set_option maxRecDepth 100000 in
set_option maxHeartbeats 16000000 in
theorem told_any (w : World) : Calls Tryd.prog 8 #[] w fun e w' => e = .returned (.bool true) ∧ Below w.heap.size w w' := by
  have oo := of_V
  have tj := told_j
  have tm := told_m
  have rr := right_V
  have ta := any_V
  have hr : rightR (up anyV.s) anyV.k anyV.n anyV.lo anyV.hi (up anyV.p) = true := by decide +kernel
  have hz : rightR 0 false 0 0 0 0 = false := by decide +kernel
  generalize ofV = F at *
  generalize anyV = VA at *
  generalize rightR = RR at *
  go_enter Tryd.func8, Tryd.ntmps8
  go_upto_region 2 with (first | (go_at_call 16; refine (oo _ _).mono ?_; rintro e wB ⟨rfl, hB⟩; first | (have hAB := hA.trans (hB.mono hA.size); clear hA hB) | (have hA := hB; clear hB)) | (go_at_call 14; refine (tj _).mono ?_; rintro e wC ⟨rfl, hC⟩))
  go_name_world W hW
  have HA : Hid (Br W wC.heap.size 4 false 0 2 4 1 ∧ Below w.heap.size w W ∧ w.heap.size ≤ wC.heap.size) := by
    rw [← hW]
    have u2 := hAB.trans (hC.mono hAB.size)
    exact ⟨Br.new _ _ _ _ _ _ _ _, u2.alloc u2.size _, u2.size⟩
  clear hW hAB hC tj
  generalize wC.heap.size = T at *
  go_upto_region 3 with (first | (go_at_call 16; refine (oo _ _).mono ?_; rintro e wB ⟨rfl, hB⟩; first | (have hAB := hA.trans (hB.mono hA.size); clear hA hB) | (have hA := hB; clear hB)) | (go_at_call 22; refine (tm _).mono ?_; rintro e wC ⟨rfl, hC⟩))
  go_name_world W2 hW2
  have HB : Hid (Br W2 T 4 false 0 2 4 1 ∧ Below w.heap.size w W2) := by
    rw [← hW2]
    have u2 := hAB.trans (hC.mono hAB.size)
    have u3 := u2.alloc u2.size (.cells #[.int .i64 0, .bool false, .int .i64 0, .int .i64 0, .int .i64 0, .int .i64 0] 33)
    exact ⟨HA.out.1.keep u3, HA.out.2.1.trans (u3.mono HA.out.2.1.size)⟩
  clear hW2 hAB hC oo tm HA
  have a0 := HB.out.1.c0
  have a1 := HB.out.1.c1
  have a2 := HB.out.1.c2
  have a3 := HB.out.1.c3
  have a4 := HB.out.1.c4
  have a5 := HB.out.1.c5
  go_wp2_with (first | (go_at_call 24; refine (ta _).mono ?_; rintro e wA ⟨rfl, hA⟩) | (go_at_call 23; refine (rr _ _ _ _ _ _ _).mono ?_; rintro e wB ⟨rfl, hB⟩; have hAB := hA.trans (hB.mono hA.size); clear hA hB; have hA := hAB; clear hAB))
  go_ret
  exact ⟨rfl, HB.out.2.trans (hA.mono HB.out.2.size)⟩
end Go.Proofs.YthiacdbjlkpfgaaDoor
namespace Go.Proofs.YthiacdbjlkpfgaaDoor
open Go.RowKit
/-- what two numbers come to -/
def arith (op a b : Int) : Int × Bool :=
  if op = 4 then (wrap64 (a + b), true)
  else if op = 5 then (wrap64 (a - b), true)
  else if op = 6 then (wrap64 (a * b), true)
  else if op = 7 then (if b = 0 then (0, false) else (wrap64 (a.tdiv b), true))
  else if op = 8 then (if b = 0 then (0, false) else (a.tmod b, true))
  else if op = 9 then (bits .and .i64 a b, true)
  else if op = 10 then (bits .xor .i64 a b, true)
  else if op = 11 then ((if a < b then 1 else 0), true)
  else if op = 12 then ((if a = b then 1 else 0), true)
  else (0, false)
set_option maxRecDepth 100000 in
set_option maxHeartbeats 4000000 in
theorem arith_ref (op a b : Int) (w : World) (ha : i64 a) (hb : i64 b) : Calls Tryd.prog 6 #[.int .i64 op, .int .i64 a, .int .i64 b] w fun e w' => e = .returned (.tuple #[.int .i64 (arith op a b).1, .bool (arith op a b).2]) ∧ w' = w := by
  unfold i64 at ha hb
  obtain ⟨a1, a2⟩ := ha
  obtain ⟨b1, b2⟩ := hb
  by_cases h4 : op = 4
  · subst h4; go_enter Tryd.func6, Tryd.ntmps6; go_wp2; go_ret2; exact ⟨by simp [arith], rfl⟩
  by_cases h5 : op = 5
  · subst h5; go_enter Tryd.func6, Tryd.ntmps6; go_wp2; go_ret2; exact ⟨by simp [arith], rfl⟩
  by_cases h6 : op = 6
  · subst h6; go_enter Tryd.func6, Tryd.ntmps6; go_wp2; go_ret2; exact ⟨by simp [arith], rfl⟩
  by_cases h7 : op = 7
  · subst h7
    by_cases hb0 : b = 0
    · subst hb0; go_enter Tryd.func6, Tryd.ntmps6; go_wp2; go_ret2; exact ⟨by simp [arith], rfl⟩
    by_cases hb1 : b = -1
    · subst hb1; go_enter Tryd.func6, Tryd.ntmps6; go_wp2; go_ret2; exact ⟨by simp [arith, Int.tdiv_neg], rfl⟩
    go_enter Tryd.func6, Tryd.ntmps6; go_wp2; go_ret2; exact ⟨by simp [arith, hb0], rfl⟩
  by_cases h8 : op = 8
  · subst h8
    by_cases hb0 : b = 0
    · subst hb0; go_enter Tryd.func6, Tryd.ntmps6; go_wp2; go_ret2; exact ⟨by simp [arith], rfl⟩
    by_cases hb1 : b = -1
    · subst hb1; go_enter Tryd.func6, Tryd.ntmps6; go_wp2; go_ret2; exact ⟨by simp [arith, Int.tmod_neg, Int.tmod_one], rfl⟩
    go_enter Tryd.func6, Tryd.ntmps6; go_wp2; go_ret2; exact ⟨by simp [arith, hb0], rfl⟩
  by_cases h9 : op = 9
  · subst h9; go_enter Tryd.func6, Tryd.ntmps6; go_wp2; go_ret2; exact ⟨by simp [arith], rfl⟩
  by_cases h10 : op = 10
  · subst h10; go_enter Tryd.func6, Tryd.ntmps6; go_wp2; go_ret2; exact ⟨by simp [arith], rfl⟩
  by_cases h11 : op = 11
  · subst h11
    by_cases hl : a < b
    · go_enter Tryd.func6, Tryd.ntmps6; go_wp2; go_ret2; exact ⟨by simp [arith, hl], rfl⟩
    · go_enter Tryd.func6, Tryd.ntmps6; go_wp2; go_ret2; exact ⟨by simp [arith, hl], rfl⟩
  by_cases h12 : op = 12
  · subst h12
    by_cases hl : a = b
    · subst hl; go_enter Tryd.func6, Tryd.ntmps6; go_wp2; go_ret2; exact ⟨by simp [arith], rfl⟩
    · go_enter Tryd.func6, Tryd.ntmps6; go_wp2; go_ret2; exact ⟨by simp [arith, hl], rfl⟩
  go_enter Tryd.func6, Tryd.ntmps6; go_wp2; go_ret2; exact ⟨by simp [arith, *], rfl⟩
set_option maxRecDepth 100000 in
set_option maxHeartbeats 4000000 in
theorem arith_vm (op a b : Int) (w : World) (ha : i64 a) (hb : i64 b) : Calls Tryd.prog 55 #[.int .i64 op, .int .i64 a, .int .i64 b] w fun e w' => e = .returned (.tuple #[.int .i64 (arith op a b).1, .bool (arith op a b).2]) ∧ w' = w := by
  unfold i64 at ha hb
  obtain ⟨a1, a2⟩ := ha
  obtain ⟨b1, b2⟩ := hb
  by_cases h4 : op = 4
  · subst h4; go_enter Tryd.func55, Tryd.ntmps55; go_wp2; go_ret2; exact ⟨by simp [arith], rfl⟩
  by_cases h5 : op = 5
  · subst h5; go_enter Tryd.func55, Tryd.ntmps55; go_wp2; go_ret2; exact ⟨by simp [arith], rfl⟩
  by_cases h6 : op = 6
  · subst h6; go_enter Tryd.func55, Tryd.ntmps55; go_wp2; go_ret2; exact ⟨by simp [arith], rfl⟩
  by_cases h7 : op = 7
  · subst h7
    by_cases hb0 : b = 0
    · subst hb0; go_enter Tryd.func55, Tryd.ntmps55; go_wp2; go_ret2; exact ⟨by simp [arith], rfl⟩
    by_cases hb1 : b = -1
    · subst hb1; go_enter Tryd.func55, Tryd.ntmps55; go_wp2; go_ret2; exact ⟨by simp [arith, Int.tdiv_neg], rfl⟩
    go_enter Tryd.func55, Tryd.ntmps55; go_wp2; go_ret2; exact ⟨by simp [arith, hb0], rfl⟩
  by_cases h8 : op = 8
  · subst h8
    by_cases hb0 : b = 0
    · subst hb0; go_enter Tryd.func55, Tryd.ntmps55; go_wp2; go_ret2; exact ⟨by simp [arith], rfl⟩
    by_cases hb1 : b = -1
    · subst hb1; go_enter Tryd.func55, Tryd.ntmps55; go_wp2; go_ret2; exact ⟨by simp [arith, Int.tmod_neg, Int.tmod_one], rfl⟩
    go_enter Tryd.func55, Tryd.ntmps55; go_wp2; go_ret2; exact ⟨by simp [arith, hb0], rfl⟩
  by_cases h9 : op = 9
  · subst h9; go_enter Tryd.func55, Tryd.ntmps55; go_wp2; go_ret2; exact ⟨by simp [arith], rfl⟩
  by_cases h10 : op = 10
  · subst h10; go_enter Tryd.func55, Tryd.ntmps55; go_wp2; go_ret2; exact ⟨by simp [arith], rfl⟩
  by_cases h11 : op = 11
  · subst h11
    by_cases hl : a < b
    · go_enter Tryd.func55, Tryd.ntmps55; go_wp2; go_ret2; exact ⟨by simp [arith, hl], rfl⟩
    · go_enter Tryd.func55, Tryd.ntmps55; go_wp2; go_ret2; exact ⟨by simp [arith, hl], rfl⟩
  by_cases h12 : op = 12
  · subst h12
    by_cases hl : a = b
    · subst hl; go_enter Tryd.func55, Tryd.ntmps55; go_wp2; go_ret2; exact ⟨by simp [arith], rfl⟩
    · go_enter Tryd.func55, Tryd.ntmps55; go_wp2; go_ret2; exact ⟨by simp [arith, hl], rfl⟩
  go_enter Tryd.func55, Tryd.ntmps55; go_wp2; go_ret2; exact ⟨by simp [arith, *], rfl⟩
end Go.Proofs.YthiacdbjlkpfgaaDoor
namespace Go.Proofs.YthiacdbjlkpfgaaDoor
open Go.RowKit
def oneOk (op : Int) : Bool := (op == 2) || (op == 3)
def oneI (op : Int) (ai : Bool) : Bool := oneOk op && ai
def oneN (op : Int) (ai : Bool) (an : Int) : Int := if ai = true then (if op = 2 then an else if op = 3 then wrap64 (-an) else 0) else 0
def twoOk (op : Int) (bi : Bool) (bn : Int) : Bool := decide (4 ≤ op) && decide (op ≤ 12) && !(((op == 7) || (op == 8)) && bi && (bn == 0))
def twoI (op : Int) (ai bi : Bool) (bn : Int) : Bool := twoOk op bi bn && ai && bi
def twoN (op : Int) (ai : Bool) (an : Int) (bi : Bool) (bn : Int) : Int := if twoI op ai bi bn = true then (arith op an bn).1 else 0
def brOk (ai : Bool) (an : Int) (yes : Bool) : Bool := if yes = true then !(ai && (an == 0)) else !(ai && (an != 0))
def brI (ai : Bool) (an : Int) (yes : Bool) : Bool := if yes = true then ai && (an != 0) else !(ai && (an != 0))
def brN (ai : Bool) (an : Int) (yes : Bool) : Int := if yes = true then (if ai = true then an else 0) else 0
theorem kis_any (ai : Bool) (an n : Int) (w : World) : Calls Tryd.prog 54 #[.agg #[.bool ai, .int .i64 an], .int .i64 n] w fun e w' => e = .returned (.bool (ai && (an == n))) ∧ New1 w w' := by
  cases ai <;> by_cases h : an = n <;> (try subst h) <;>
  · go_enter Tryd.func54, Tryd.ntmps54
    go_wp2
    go_ret
    exact ⟨by simp [*], _, rfl⟩
set_option maxHeartbeats 2000000 in
theorem kone_any (op : Int) (ai : Bool) (an : Int) (w : World) : Calls Tryd.prog 29 #[.int .i64 op, .agg #[.bool ai, .int .i64 an]] w fun e w' => e = .returned (.tuple #[.agg #[.bool (oneI op ai), .int .i64 (oneN op ai an)], .bool (oneOk op)]) ∧ Below w.heap.size w w' := by
  by_cases q2 : op = 2
  · subst q2
    cases ai <;>
    · go_enter Tryd.func29, Tryd.ntmps29
      go_wp2_with (first | (go_at_call 74; refine (krt_any _ _ _).mono ?_; rintro e w' ⟨rfl, hb⟩; obtain ⟨hc, hf⟩ := bcell hb; have hz := hb.size; simp at hz) | (go_at_call 50; refine (kof_any _ _).mono ?_; rintro e w' ⟨rfl, o, rfl⟩) | (go_at_call 53; refine (kany_any _).mono ?_; rintro e w' ⟨rfl, o, rfl⟩))
      all_goals (exact bodyPost_ret (by simp [results, Tryd.results29, go_sem, *]; try rfl) rfl ⟨by simp [oneI, oneN, oneOk, cleanN, *], (by repeat (first | exact Below.refl _ _ | (refine Below.drew ?_) | (refine Below.setCell ?_ (by first | omega | (simp; done) | (simp; omega)) _) | (refine Below.alloc ?_ (by first | omega | (simp; done) | (simp; omega)) _) | (refine Below.trans ?_ (Below.mono (by assumption) (by first | omega | (simp; done) | (simp; omega))))))⟩)
  by_cases q3 : op = 3
  · subst q3
    cases ai <;>
    · go_enter Tryd.func29, Tryd.ntmps29
      go_wp2_with (first | (go_at_call 74; refine (krt_any _ _ _).mono ?_; rintro e w' ⟨rfl, hb⟩; obtain ⟨hc, hf⟩ := bcell hb; have hz := hb.size; simp at hz) | (go_at_call 50; refine (kof_any _ _).mono ?_; rintro e w' ⟨rfl, o, rfl⟩) | (go_at_call 53; refine (kany_any _).mono ?_; rintro e w' ⟨rfl, o, rfl⟩))
      all_goals (exact bodyPost_ret (by simp [results, Tryd.results29, go_sem, *]; try rfl) rfl ⟨by simp [oneI, oneN, oneOk, cleanN, *], (by repeat (first | exact Below.refl _ _ | (refine Below.drew ?_) | (refine Below.setCell ?_ (by first | omega | (simp; done) | (simp; omega)) _) | (refine Below.alloc ?_ (by first | omega | (simp; done) | (simp; omega)) _) | (refine Below.trans ?_ (Below.mono (by assumption) (by first | omega | (simp; done) | (simp; omega))))))⟩)
  have b2 : (op != 2) = true := by simp [q2]
  have b3 : (op != 3) = true := by simp [q3]
  have c2 : (op == 2) = false := by simp [q2]
  have c3 : (op == 3) = false := by simp [q3]
  cases ai <;>
  · go_enter Tryd.func29, Tryd.ntmps29
    go_wp2_with (first | (go_at_call 74; refine (krt_any _ _ _).mono ?_; rintro e w' ⟨rfl, hb⟩; obtain ⟨hc, hf⟩ := bcell hb; have hz := hb.size; simp at hz) | (go_at_call 50; refine (kof_any _ _).mono ?_; rintro e w' ⟨rfl, o, rfl⟩) | (go_at_call 53; refine (kany_any _).mono ?_; rintro e w' ⟨rfl, o, rfl⟩))
    all_goals (exact bodyPost_ret (by simp [results, Tryd.results29, go_sem, *]; try rfl) rfl ⟨by simp [oneI, oneN, oneOk, *], (by repeat (first | exact Below.refl _ _ | (refine Below.drew ?_) | (refine Below.setCell ?_ (by first | omega | (simp; done) | (simp; omega)) _) | (refine Below.alloc ?_ (by first | omega | (simp; done) | (simp; omega)) _) | (refine Below.trans ?_ (Below.mono (by assumption) (by first | omega | (simp; done) | (simp; omega))))))⟩)
set_option maxHeartbeats 2000000 in
theorem kbr_any (ai : Bool) (an : Int) (yes : Bool) (w : World) : Calls Tryd.prog 33 #[.agg #[.bool ai, .int .i64 an], .bool yes] w fun e w' => e = .returned (.tuple #[.agg #[.bool (brI ai an yes), .int .i64 (brN ai an yes)], .bool (brOk ai an yes)]) ∧ Below w.heap.size w w' := by
  cases yes
  · have e1 : meetI ai an true 0 = brI ai an false := by cases ai <;> by_cases h : an = 0 <;> simp [meetI, brI, h, bne]
    have e2 : meetN ai an true 0 = brN ai an false := by cases ai <;> by_cases h : an = 0 <;> simp [meetN, brN, h]
    have e3 : meetOk ai an true 0 = brOk ai an false := by cases ai <;> by_cases h : an = 0 <;> simp [meetOk, brOk, h]
    go_enter Tryd.func33, Tryd.ntmps33
    go_wp2
    go_region_with (first | (go_at_call 65; refine (kmeet_any _ _ _ _ _).mono ?_; rintro e w' ⟨rfl, hb⟩; obtain ⟨hc, hf⟩ := bcell hb; have hz := hb.size; simp at hz) | (go_at_call 50; refine (kof_any _ _).mono ?_; rintro e w' ⟨rfl, o, rfl⟩))
    all_goals (go_wp2; exact bodyPost_ret (by simp [results, Tryd.results33, go_sem, *]; try rfl) rfl ⟨rfl, (by repeat (first | exact Below.refl _ _ | (refine Below.drew ?_) | (refine Below.setCell ?_ (by first | omega | (simp; done) | (simp; omega)) _) | (refine Below.alloc ?_ (by first | omega | (simp; done) | (simp; omega)) _) | (refine Below.trans ?_ (Below.mono (by assumption) (by first | omega | (simp; done) | (simp; omega))))))⟩)
  · cases ai <;> by_cases h : an = 0 <;> (try subst h) <;>
    · go_enter Tryd.func33, Tryd.ntmps33
      go_wp2_with (first | (go_at_call 74; refine (krt_any _ _ _).mono ?_; rintro e w' ⟨rfl, hb⟩; obtain ⟨hc, hf⟩ := bcell hb; have hz := hb.size; simp at hz) | (go_at_call 53; refine (kany_any _).mono ?_; rintro e w' ⟨rfl, o, rfl⟩) | (go_at_call 54; refine (kis_any _ _ _ _).mono ?_; rintro e w' ⟨rfl, o, rfl⟩))
      all_goals (exact bodyPost_ret (by simp [results, Tryd.results33, go_sem, *]; try rfl) rfl ⟨by simp [brI, brN, brOk, cleanN, *], (by repeat (first | exact Below.refl _ _ | (refine Below.drew ?_) | (refine Below.setCell ?_ (by first | omega | (simp; done) | (simp; omega)) _) | (refine Below.alloc ?_ (by first | omega | (simp; done) | (simp; omega)) _) | (refine Below.trans ?_ (Below.mono (by assumption) (by first | omega | (simp; done) | (simp; omega))))))⟩)
end Go.Proofs.YthiacdbjlkpfgaaDoor
