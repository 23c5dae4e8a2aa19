import Derived.Test.YtmhicllhjiglkaaG02
import Derived.Test.YtmhicllhjiglkaaG06
namespace Go.Proofs.Ytmhicllhjiglkaa
open Go.RowKit
set_option maxRecDepth 100000 in
set_option maxHeartbeats 16000000 in
theorem join_V (x y : V) (w : World) (hx : x.p &&& 3 = x.p) (hy : y.p &&& 3 = y.p) : Calls Try.prog 44 #[.agg #[.int .i64 (up x.s), .bool x.k, .int .i64 x.n, .int .i64 x.lo, .int .i64 x.hi, .int .i64 (up x.p)], .agg #[.int .i64 (up y.s), .bool y.k, .int .i64 y.n, .int .i64 y.lo, .int .i64 y.hi, .int .i64 (up y.p)]] w fun e w' => e = .returned (.agg #[.int .i64 (up (joinV x y).s), .bool (joinV x y).k, .int .i64 (joinV x y).n, .int .i64 (joinV x y).lo, .int .i64 (joinV x y).hi, .int .i64 (up (joinV x y).p)]) ∧ Below w.heap.size w w' := by
  have x0 : Br (((w.alloc (.cells #[.int .i64 (up x.s), .bool x.k, .int .i64 x.n, .int .i64 x.lo, .int .i64 x.hi, .int .i64 (up x.p)] 53)).alloc (.cells #[.int .i64 (up y.s), .bool y.k, .int .i64 y.n, .int .i64 y.lo, .int .i64 y.hi, .int .i64 (up y.p)] 53)).alloc (.cells #[.int .i64 0, .bool false, .int .i64 0, .int .i64 0, .int .i64 0, .int .i64 0] 53)) (w.heap.size) (up x.s) x.k x.n x.lo x.hi (up x.p) := (((Br.new w (up x.s) x.k x.n x.lo x.hi (up x.p) 53)).keep ((Below.refl _ _).alloc (Nat.le_refl _) _)).keep ((Below.refl _ _).alloc (Nat.le_refl _) _)
  have x1 : Br (((w.alloc (.cells #[.int .i64 (up x.s), .bool x.k, .int .i64 x.n, .int .i64 x.lo, .int .i64 x.hi, .int .i64 (up x.p)] 53)).alloc (.cells #[.int .i64 (up y.s), .bool y.k, .int .i64 y.n, .int .i64 y.lo, .int .i64 y.hi, .int .i64 (up y.p)] 53)).alloc (.cells #[.int .i64 0, .bool false, .int .i64 0, .int .i64 0, .int .i64 0, .int .i64 0] 53)) (w.heap.size + 1) (up y.s) y.k y.n y.lo y.hi (up y.p) := ((by simpa using Br.new (w.alloc (.cells #[.int .i64 (up x.s), .bool x.k, .int .i64 x.n, .int .i64 x.lo, .int .i64 x.hi, .int .i64 (up x.p)] 53)) (up y.s) y.k y.n y.lo y.hi (up y.p) 53 : Br ((w.alloc (.cells #[.int .i64 (up x.s), .bool x.k, .int .i64 x.n, .int .i64 x.lo, .int .i64 x.hi, .int .i64 (up x.p)] 53)).alloc (.cells #[.int .i64 (up y.s), .bool y.k, .int .i64 y.n, .int .i64 y.lo, .int .i64 y.hi, .int .i64 (up y.p)] 53)) (w.heap.size + 1) (up y.s) y.k y.n y.lo y.hi (up y.p))).keep ((Below.refl _ _).alloc (Nat.le_refl _) _)
  have x2 : Br (((w.alloc (.cells #[.int .i64 (up x.s), .bool x.k, .int .i64 x.n, .int .i64 x.lo, .int .i64 x.hi, .int .i64 (up x.p)] 53)).alloc (.cells #[.int .i64 (up y.s), .bool y.k, .int .i64 y.n, .int .i64 y.lo, .int .i64 y.hi, .int .i64 (up y.p)] 53)).alloc (.cells #[.int .i64 0, .bool false, .int .i64 0, .int .i64 0, .int .i64 0, .int .i64 0] 53)) (w.heap.size + 1 + 1) 0 false 0 0 0 0 := (by simpa using Br.new ((w.alloc (.cells #[.int .i64 (up x.s), .bool x.k, .int .i64 x.n, .int .i64 x.lo, .int .i64 x.hi, .int .i64 (up x.p)] 53)).alloc (.cells #[.int .i64 (up y.s), .bool y.k, .int .i64 y.n, .int .i64 y.lo, .int .i64 y.hi, .int .i64 (up y.p)] 53)) 0 false 0 0 0 0 53 : Br (((w.alloc (.cells #[.int .i64 (up x.s), .bool x.k, .int .i64 x.n, .int .i64 x.lo, .int .i64 x.hi, .int .i64 (up x.p)] 53)).alloc (.cells #[.int .i64 (up y.s), .bool y.k, .int .i64 y.n, .int .i64 y.lo, .int .i64 y.hi, .int .i64 (up y.p)] 53)).alloc (.cells #[.int .i64 0, .bool false, .int .i64 0, .int .i64 0, .int .i64 0, .int .i64 0] 53)) (w.heap.size + 1 + 1) 0 false 0 0 0 0)
  have xf : Fz (((w.alloc (.cells #[.int .i64 (up x.s), .bool x.k, .int .i64 x.n, .int .i64 x.lo, .int .i64 x.hi, .int .i64 (up x.p)] 53)).alloc (.cells #[.int .i64 (up y.s), .bool y.k, .int .i64 y.n, .int .i64 y.lo, .int .i64 y.hi, .int .i64 (up y.p)] 53)).alloc (.cells #[.int .i64 0, .bool false, .int .i64 0, .int .i64 0, .int .i64 0, .int .i64 0] 53)) (w.heap.size + 1 + 1) := by simpa using Fz.new ((w.alloc (.cells #[.int .i64 (up x.s), .bool x.k, .int .i64 x.n, .int .i64 x.lo, .int .i64 x.hi, .int .i64 (up x.p)] 53)).alloc (.cells #[.int .i64 (up y.s), .bool y.k, .int .i64 y.n, .int .i64 y.lo, .int .i64 y.hi, .int .i64 (up y.p)] 53)) 0 false 0 0 0 0 53
  have xb : Below w.heap.size w (((w.alloc (.cells #[.int .i64 (up x.s), .bool x.k, .int .i64 x.n, .int .i64 x.lo, .int .i64 x.hi, .int .i64 (up x.p)] 53)).alloc (.cells #[.int .i64 (up y.s), .bool y.k, .int .i64 y.n, .int .i64 y.lo, .int .i64 y.hi, .int .i64 (up y.p)] 53)).alloc (.cells #[.int .i64 0, .bool false, .int .i64 0, .int .i64 0, .int .i64 0, .int .i64 0] 53)) := (by repeat (first | exact Below.refl _ _ | (refine Below.drew ?_) | (refine below_drewN ?_ _) | (refine Below.setCell ?_ (by first | omega | (simp; done) | (simp; omega)) _) | (refine Below.alloc ?_ (by first | omega | (simp; done) | (simp; omega)) _) | (refine Below.trans ?_ (Below.mono (by assumption) (by first | omega | (simp; done) | (simp; omega))))))
  go_enter Try.func44, Try.ntmps44
  go_upto_region 1 with fail
  go_name_world W hW
  rw [hW] at x0 x1 x2 xf xb
  clear hW
  obtain ⟨N, hN⟩ : ∃ N, N = w.heap.size := ⟨_, rfl⟩
  rw [← hN] at x0 x1 x2 xf xb ⊢
  have HN : Hid (N = w.heap.size) := hN
  clear hN
  have HCL : Hid (∀ a b : World, (a.cell? ⟨N, 0, none⟩ = some (.int .i64 (up x.s)) ∧ a.cell? ⟨N, 1, none⟩ = some (.bool x.k) ∧ a.cell? ⟨N, 2, none⟩ = some (.int .i64 x.n) ∧ a.cell? ⟨N, 3, none⟩ = some (.int .i64 x.lo) ∧ a.cell? ⟨N, 4, none⟩ = some (.int .i64 x.hi) ∧ a.cell? ⟨N, 5, none⟩ = some (.int .i64 (up x.p)) ∧ a.cell? ⟨(N + 1), 0, none⟩ = some (.int .i64 (up y.s)) ∧ a.cell? ⟨(N + 1), 1, none⟩ = some (.bool y.k) ∧ a.cell? ⟨(N + 1), 2, none⟩ = some (.int .i64 y.n) ∧ a.cell? ⟨(N + 1), 3, none⟩ = some (.int .i64 y.lo) ∧ a.cell? ⟨(N + 1), 4, none⟩ = some (.int .i64 y.hi) ∧ a.cell? ⟨(N + 1), 5, none⟩ = some (.int .i64 (up y.p)) ∧ Hid (Br a N (up x.s) x.k x.n x.lo x.hi (up x.p) ∧ Br a (N + 1) (up y.s) y.k y.n y.lo y.hi (up y.p) ∧ Rw a (N + 1 + 1) ∧ Below N w a)) → Below a.heap.size a b → (b.cell? ⟨N, 0, none⟩ = some (.int .i64 (up x.s)) ∧ b.cell? ⟨N, 1, none⟩ = some (.bool x.k) ∧ b.cell? ⟨N, 2, none⟩ = some (.int .i64 x.n) ∧ b.cell? ⟨N, 3, none⟩ = some (.int .i64 x.lo) ∧ b.cell? ⟨N, 4, none⟩ = some (.int .i64 x.hi) ∧ b.cell? ⟨N, 5, none⟩ = some (.int .i64 (up x.p)) ∧ b.cell? ⟨(N + 1), 0, none⟩ = some (.int .i64 (up y.s)) ∧ b.cell? ⟨(N + 1), 1, none⟩ = some (.bool y.k) ∧ b.cell? ⟨(N + 1), 2, none⟩ = some (.int .i64 y.n) ∧ b.cell? ⟨(N + 1), 3, none⟩ = some (.int .i64 y.lo) ∧ b.cell? ⟨(N + 1), 4, none⟩ = some (.int .i64 y.hi) ∧ b.cell? ⟨(N + 1), 5, none⟩ = some (.int .i64 (up y.p)) ∧ Hid (Br b N (up x.s) x.k x.n x.lo x.hi (up x.p) ∧ Br b (N + 1) (up y.s) y.k y.n y.lo y.hi (up y.p) ∧ Rw b (N + 1 + 1) ∧ Below N w b))) := fun a b h hb => by
    have y9 := (h.2.2.2.2.2.2.2.2.2.2.2.2).out
    have z9 : Br b N (up x.s) x.k x.n x.lo x.hi (up x.p) ∧ Br b (N + 1) (up y.s) y.k y.n y.lo y.hi (up y.p) ∧ Rw b (N + 1 + 1) ∧ Below N w b := ⟨y9.1.keep hb, y9.2.1.keep hb, y9.2.2.1.keep hb, y9.2.2.2.trans (hb.mono (Nat.le_of_lt y9.1.lt))⟩
    exact ⟨z9.1.c0, z9.1.c1, z9.1.c2, z9.1.c3, z9.1.c4, z9.1.c5, z9.2.1.c0, z9.2.1.c1, z9.2.1.c2, z9.2.1.c3, z9.2.1.c4, z9.2.1.c5, z9⟩
  have z0 : Br W N (up x.s) x.k x.n x.lo x.hi (up x.p) ∧ Br W (N + 1) (up y.s) y.k y.n y.lo y.hi (up y.p) ∧ Rw W (N + 1 + 1) ∧ Below N w W := ⟨x0, x1, ⟨_, _, _, _, _, _, x2, xf⟩, xb⟩
  have hS0 : W.cell? ⟨N, 0, none⟩ = some (.int .i64 (up x.s)) ∧ W.cell? ⟨N, 1, none⟩ = some (.bool x.k) ∧ W.cell? ⟨N, 2, none⟩ = some (.int .i64 x.n) ∧ W.cell? ⟨N, 3, none⟩ = some (.int .i64 x.lo) ∧ W.cell? ⟨N, 4, none⟩ = some (.int .i64 x.hi) ∧ W.cell? ⟨N, 5, none⟩ = some (.int .i64 (up x.p)) ∧ W.cell? ⟨(N + 1), 0, none⟩ = some (.int .i64 (up y.s)) ∧ W.cell? ⟨(N + 1), 1, none⟩ = some (.bool y.k) ∧ W.cell? ⟨(N + 1), 2, none⟩ = some (.int .i64 y.n) ∧ W.cell? ⟨(N + 1), 3, none⟩ = some (.int .i64 y.lo) ∧ W.cell? ⟨(N + 1), 4, none⟩ = some (.int .i64 y.hi) ∧ W.cell? ⟨(N + 1), 5, none⟩ = some (.int .i64 (up y.p)) ∧ Hid (Br W N (up x.s) x.k x.n x.lo x.hi (up x.p) ∧ Br W (N + 1) (up y.s) y.k y.n y.lo y.hi (up y.p) ∧ Rw W (N + 1 + 1) ∧ Below N w W) := ⟨z0.1.c0, z0.1.c1, z0.1.c2, z0.1.c3, z0.1.c4, z0.1.c5, z0.2.1.c0, z0.2.1.c1, z0.2.1.c2, z0.2.1.c3, z0.2.1.c4, z0.2.1.c5, z0⟩
  clear x0 x1 x2 xf xb z0
  refine wp_region_held_drew (S := fun w' => w'.cell? ⟨N, 0, none⟩ = some (.int .i64 (up x.s)) ∧ w'.cell? ⟨N, 1, none⟩ = some (.bool x.k) ∧ w'.cell? ⟨N, 2, none⟩ = some (.int .i64 x.n) ∧ w'.cell? ⟨N, 3, none⟩ = some (.int .i64 x.lo) ∧ w'.cell? ⟨N, 4, none⟩ = some (.int .i64 x.hi) ∧ w'.cell? ⟨N, 5, none⟩ = some (.int .i64 (up x.p)) ∧ w'.cell? ⟨(N + 1), 0, none⟩ = some (.int .i64 (up y.s)) ∧ w'.cell? ⟨(N + 1), 1, none⟩ = some (.bool y.k) ∧ w'.cell? ⟨(N + 1), 2, none⟩ = some (.int .i64 y.n) ∧ w'.cell? ⟨(N + 1), 3, none⟩ = some (.int .i64 y.lo) ∧ w'.cell? ⟨(N + 1), 4, none⟩ = some (.int .i64 y.hi) ∧ w'.cell? ⟨(N + 1), 5, none⟩ = some (.int .i64 (up y.p)) ∧ Hid (Br w' N (up x.s) x.k x.n x.lo x.hi (up x.p) ∧ Br w' (N + 1) (up y.s) y.k y.n y.lo y.hi (up y.p) ∧ Rw w' (N + 1 + 1) ∧ Below N w w')) (by kernel_rfl) (HCL.out _ _ hS0 ((Below.refl _ _).drew)) (fun hHeld => ?_)
  refine wpAnyH_take (i := 0) (oi := ({ dst := some 5, op := Op.fieldAddr 53 (Operand.tmp 2) 0, type := 0, pos := "fact.go:46", after := #[], guard := none } : Oper)) (v := ?_) rfl (by kernel_rfl) (by kernel_rfl) (by kernel_rfl) (fun _ _ _ h => h) (Or.inl ⟨by rfl, ?_⟩) (by assumption) ?_
  rotate_left
  · (intro wz hSw; (try dsimp only at hSw); go_simp; try with_reducible rfl)
  simp only [Act.put, List.setIfInBounds_toArray, List.set_cons_zero, List.set_cons_succ]
  refine wpAnyH_take (i := 1) (oi := ({ dst := some 6, op := Op.load 3 (Operand.tmp 5), type := 3, pos := "fact.go:46", after := #[{ on := 0, ground := Ground.data }], guard := none } : Oper)) (v := ?_) rfl (by kernel_rfl) (by kernel_rfl) (by kernel_rfl) (fun _ _ _ h => h) (Or.inl ⟨by rfl, ?_⟩) (by assumption) ?_
  rotate_left
  · (intro wz hSw; (try dsimp only at hSw); go_simp; try with_reducible rfl)
  simp only [Act.put, List.setIfInBounds_toArray, List.set_cons_zero, List.set_cons_succ]
  refine wpAnyH_take (i := 2) (oi := ({ dst := some 7, op := Op.fieldAddr 53 (Operand.tmp 3) 0, type := 0, pos := "fact.go:46", after := #[], guard := none } : Oper)) (v := ?_) rfl (by kernel_rfl) (by kernel_rfl) (by kernel_rfl) (fun _ _ _ h => h) (Or.inl ⟨by rfl, ?_⟩) (by assumption) ?_
  rotate_left
  · (intro wz hSw; (try dsimp only at hSw); go_simp; try with_reducible rfl)
  simp only [Act.put, List.setIfInBounds_toArray, List.set_cons_zero, List.set_cons_succ]
  refine wpAnyH_take (i := 3) (oi := ({ dst := some 8, op := Op.load 3 (Operand.tmp 7), type := 3, pos := "fact.go:46", after := #[{ on := 2, ground := Ground.data }], guard := none } : Oper)) (v := ?_) rfl (by kernel_rfl) (by kernel_rfl) (by kernel_rfl) (fun _ _ _ h => h) (Or.inl ⟨by rfl, ?_⟩) (by assumption) ?_
  rotate_left
  · (intro wz hSw; (try dsimp only at hSw); go_simp; try with_reducible rfl)
  simp only [Act.put, List.setIfInBounds_toArray, List.set_cons_zero, List.set_cons_succ]
  refine wpAnyH_take (i := 5) (oi := ({ dst := some 10, op := Op.fieldAddr 53 (Operand.tmp 2) 1, type := 0, pos := "fact.go:46", after := #[], guard := none } : Oper)) (v := ?_) rfl (by kernel_rfl) (by kernel_rfl) (by kernel_rfl) (fun _ _ _ h => h) (Or.inl ⟨by rfl, ?_⟩) (by assumption) ?_
  rotate_left
  · (intro wz hSw; (try dsimp only at hSw); go_simp; try with_reducible rfl)
  simp only [Act.put, List.setIfInBounds_toArray, List.set_cons_zero, List.set_cons_succ]
  refine wpAnyH_take (i := 6) (oi := ({ dst := some 11, op := Op.load 50 (Operand.tmp 10), type := 50, pos := "fact.go:46", after := #[{ on := 5, ground := Ground.data }], guard := none } : Oper)) (v := ?_) rfl (by kernel_rfl) (by kernel_rfl) (by kernel_rfl) (fun _ _ _ h => h) (Or.inl ⟨by rfl, ?_⟩) (by assumption) ?_
  rotate_left
  · (intro wz hSw; (try dsimp only at hSw); go_simp; try with_reducible rfl)
  simp only [Act.put, List.setIfInBounds_toArray, List.set_cons_zero, List.set_cons_succ]
  refine wpAnyH_take (i := 7) (oi := ({ dst := some 12, op := Op.fieldAddr 53 (Operand.tmp 3) 1, type := 0, pos := "fact.go:46", after := #[], guard := none } : Oper)) (v := ?_) rfl (by kernel_rfl) (by kernel_rfl) (by kernel_rfl) (fun _ _ _ h => h) (Or.inl ⟨by rfl, ?_⟩) (by assumption) ?_
  rotate_left
  · (intro wz hSw; (try dsimp only at hSw); go_simp; try with_reducible rfl)
  simp only [Act.put, List.setIfInBounds_toArray, List.set_cons_zero, List.set_cons_succ]
  refine wpAnyH_take (i := 8) (oi := ({ dst := some 13, op := Op.load 50 (Operand.tmp 12), type := 50, pos := "fact.go:46", after := #[{ on := 7, ground := Ground.data }], guard := none } : Oper)) (v := ?_) rfl (by kernel_rfl) (by kernel_rfl) (by kernel_rfl) (fun _ _ _ h => h) (Or.inl ⟨by rfl, ?_⟩) (by assumption) ?_
  rotate_left
  · (intro wz hSw; (try dsimp only at hSw); go_simp; try with_reducible rfl)
  simp only [Act.put, List.setIfInBounds_toArray, List.set_cons_zero, List.set_cons_succ]
  refine wpAnyH_take (i := 10) (oi := ({ dst := some 15, op := Op.fieldAddr 53 (Operand.tmp 2) 2, type := 0, pos := "fact.go:46", after := #[], guard := none } : Oper)) (v := ?_) rfl (by kernel_rfl) (by kernel_rfl) (by kernel_rfl) (fun _ _ _ h => h) (Or.inl ⟨by rfl, ?_⟩) (by assumption) ?_
  rotate_left
  · (intro wz hSw; (try dsimp only at hSw); go_simp; try with_reducible rfl)
  simp only [Act.put, List.setIfInBounds_toArray, List.set_cons_zero, List.set_cons_succ]
  refine wpAnyH_take (i := 11) (oi := ({ dst := some 16, op := Op.load 51 (Operand.tmp 15), type := 51, pos := "fact.go:46", after := #[{ on := 10, ground := Ground.data }], guard := none } : Oper)) (v := ?_) rfl (by kernel_rfl) (by kernel_rfl) (by kernel_rfl) (fun _ _ _ h => h) (Or.inl ⟨by rfl, ?_⟩) (by assumption) ?_
  rotate_left
  · (intro wz hSw; (try dsimp only at hSw); go_simp; try with_reducible rfl)
  simp only [Act.put, List.setIfInBounds_toArray, List.set_cons_zero, List.set_cons_succ]
  refine wpAnyH_take (i := 12) (oi := ({ dst := some 17, op := Op.fieldAddr 53 (Operand.tmp 3) 2, type := 0, pos := "fact.go:46", after := #[], guard := none } : Oper)) (v := ?_) rfl (by kernel_rfl) (by kernel_rfl) (by kernel_rfl) (fun _ _ _ h => h) (Or.inl ⟨by rfl, ?_⟩) (by assumption) ?_
  rotate_left
  · (intro wz hSw; (try dsimp only at hSw); go_simp; try with_reducible rfl)
  simp only [Act.put, List.setIfInBounds_toArray, List.set_cons_zero, List.set_cons_succ]
  refine wpAnyH_take (i := 13) (oi := ({ dst := some 18, op := Op.load 51 (Operand.tmp 17), type := 51, pos := "fact.go:46", after := #[{ on := 12, ground := Ground.data }], guard := none } : Oper)) (v := ?_) rfl (by kernel_rfl) (by kernel_rfl) (by kernel_rfl) (fun _ _ _ h => h) (Or.inl ⟨by rfl, ?_⟩) (by assumption) ?_
  rotate_left
  · (intro wz hSw; (try dsimp only at hSw); go_simp; try with_reducible rfl)
  simp only [Act.put, List.setIfInBounds_toArray, List.set_cons_zero, List.set_cons_succ]
  refine wpAnyH_take (i := 15) (oi := ({ dst := some 20, op := Op.fieldAddr 53 (Operand.tmp 2) 3, type := 0, pos := "fact.go:46", after := #[], guard := none } : Oper)) (v := ?_) rfl (by kernel_rfl) (by kernel_rfl) (by kernel_rfl) (fun _ _ _ h => h) (Or.inl ⟨by rfl, ?_⟩) (by assumption) ?_
  rotate_left
  · (intro wz hSw; (try dsimp only at hSw); go_simp; try with_reducible rfl)
  simp only [Act.put, List.setIfInBounds_toArray, List.set_cons_zero, List.set_cons_succ]
  refine wpAnyH_take (i := 16) (oi := ({ dst := some 21, op := Op.load 3 (Operand.tmp 20), type := 3, pos := "fact.go:46", after := #[{ on := 15, ground := Ground.data }], guard := none } : Oper)) (v := ?_) rfl (by kernel_rfl) (by kernel_rfl) (by kernel_rfl) (fun _ _ _ h => h) (Or.inl ⟨by rfl, ?_⟩) (by assumption) ?_
  rotate_left
  · (intro wz hSw; (try dsimp only at hSw); go_simp; try with_reducible rfl)
  simp only [Act.put, List.setIfInBounds_toArray, List.set_cons_zero, List.set_cons_succ]
  refine wpAnyH_take (i := 17) (oi := ({ dst := some 22, op := Op.fieldAddr 53 (Operand.tmp 3) 3, type := 0, pos := "fact.go:46", after := #[], guard := none } : Oper)) (v := ?_) rfl (by kernel_rfl) (by kernel_rfl) (by kernel_rfl) (fun _ _ _ h => h) (Or.inl ⟨by rfl, ?_⟩) (by assumption) ?_
  rotate_left
  · (intro wz hSw; (try dsimp only at hSw); go_simp; try with_reducible rfl)
  simp only [Act.put, List.setIfInBounds_toArray, List.set_cons_zero, List.set_cons_succ]
  refine wpAnyH_take (i := 18) (oi := ({ dst := some 23, op := Op.load 3 (Operand.tmp 22), type := 3, pos := "fact.go:46", after := #[{ on := 17, ground := Ground.data }], guard := none } : Oper)) (v := ?_) rfl (by kernel_rfl) (by kernel_rfl) (by kernel_rfl) (fun _ _ _ h => h) (Or.inl ⟨by rfl, ?_⟩) (by assumption) ?_
  rotate_left
  · (intro wz hSw; (try dsimp only at hSw); go_simp; try with_reducible rfl)
  simp only [Act.put, List.setIfInBounds_toArray, List.set_cons_zero, List.set_cons_succ]
  refine wpAnyH_ready (rs := [4]) (by kernel_rfl) (by simp) ?_
  refine AllReadyH.cons (o := ({ dst := some 9, op := Op.call { callee := Callee.value (Operand.func 88), args := #[Operand.tmp 6, Operand.tmp 8], argTypes := #[3, 3] }, type := 3, pos := "fact.go:47", after := #[{ on := 1, ground := Ground.data }, { on := 3, ground := Ground.data }], guard := none } : Oper)) rfl (fun K hK => ?_) AllReadyH.nil
  go_simp
  go_at_call 88
  refine (lift (sjoinB _ _ _) (by assumption) HCL.out).mono ?_
  rintro e v1 ⟨rfl, g1⟩
  refine hK.out _ _ g1 (fun hHeld => ?_)
  clear hK K
  refine wpAnyH_ready (rs := [9]) (by kernel_rfl) (by simp) ?_
  refine AllReadyH.cons (o := ({ dst := some 14, op := Op.call { callee := Callee.value (Operand.func 89), args := #[Operand.tmp 11, Operand.tmp 13], argTypes := #[50, 50] }, type := 50, pos := "fact.go:48", after := #[{ on := 6, ground := Ground.data }, { on := 8, ground := Ground.data }, { on := 4, ground := Ground.chain }], guard := none } : Oper)) rfl (fun K hK => ?_) AllReadyH.nil
  go_simp
  go_at_call 89
  refine (lift (kjoin_any _ _ _ _ _) (by assumption) HCL.out).mono ?_
  rintro e v2 ⟨rfl, g2⟩
  refine hK.out _ _ g2 (fun hHeld => ?_)
  clear hK K
  refine wpAnyH_ready (rs := [14]) (by kernel_rfl) (by simp) ?_
  refine AllReadyH.cons (o := ({ dst := some 19, op := Op.call { callee := Callee.value (Operand.func 90), args := #[Operand.tmp 16, Operand.tmp 18], argTypes := #[51, 51] }, type := 51, pos := "fact.go:49", after := #[{ on := 11, ground := Ground.data }, { on := 13, ground := Ground.data }, { on := 9, ground := Ground.chain }], guard := none } : Oper)) rfl (fun K hK => ?_) AllReadyH.nil
  go_simp
  go_at_call 90
  refine (lift (bel3 (njoin_any _ _ _ _ _)) (by assumption) HCL.out).mono ?_
  rintro e v3 ⟨rfl, g3⟩
  refine hK.out _ _ g3 (fun hHeld => ?_)
  clear hK K
  refine wpAnyH_ready (rs := [19]) (by kernel_rfl) (by simp) ?_
  refine AllReadyH.cons (o := ({ dst := some 24, op := Op.call { callee := Callee.value (Operand.func 91), args := #[Operand.tmp 21, Operand.tmp 23], argTypes := #[3, 3] }, type := 3, pos := "fact.go:50", after := #[{ on := 16, ground := Ground.data }, { on := 18, ground := Ground.data }, { on := 14, ground := Ground.chain }], guard := none } : Oper)) rfl (fun K hK => ?_) AllReadyH.nil
  go_simp
  go_at_call 91
  refine (lift (pjoinB _ _ _ hx hy) (by assumption) HCL.out).mono ?_
  rintro e v4 ⟨rfl, g4⟩
  refine hK.out _ _ g4 (fun hHeld => ?_)
  clear hK K
  refine wpAnyH_take (i := 20) (oi := ({ dst := some 25, op := Op.build 53 #[(0, Operand.tmp 9), (1, Operand.tmp 14), (2, Operand.tmp 19), (3, Operand.tmp 24)], type := 53, pos := "fact.go:46", after := #[{ on := 4, ground := Ground.data }, { on := 9, ground := Ground.data }, { on := 14, ground := Ground.data }, { on := 19, ground := Ground.data }], guard := none } : Oper)) (v := ?_) rfl (by kernel_rfl) (by kernel_rfl) (by kernel_rfl) (fun _ _ _ h => h) (Or.inl ⟨by rfl, ?_⟩) (by assumption) ?_
  rotate_left
  · (intro wz hSw; (try dsimp only at hSw); go_simp; try with_reducible rfl)
  simp only [Act.put, List.setIfInBounds_toArray, List.set_cons_zero, List.set_cons_succ]
  refine wpAnyH_ready (rs := [21]) (by kernel_rfl) (by simp) ?_
  refine AllReadyH.cons (o := ({ dst := none, op := Op.store 53 (Operand.tmp 4) (Operand.tmp 25), type := 0, pos := "fact.go:46", after := #[{ on := 20, ground := Ground.data }, { on := 19, ground := Ground.chain }, { on := 0, ground := Ground.phase }, { on := 1, ground := Ground.phase }, { on := 2, ground := Ground.phase }, { on := 3, ground := Ground.phase }, { on := 4, ground := Ground.phase }, { on := 5, ground := Ground.phase }, { on := 6, ground := Ground.phase }, { on := 7, ground := Ground.phase }, { on := 8, ground := Ground.phase }, { on := 9, ground := Ground.phase }, { on := 10, ground := Ground.phase }, { on := 11, ground := Ground.phase }, { on := 12, ground := Ground.phase }, { on := 13, ground := Ground.phase }, { on := 14, ground := Ground.phase }, { on := 15, ground := Ground.phase }, { on := 16, ground := Ground.phase }, { on := 17, ground := Ground.phase }, { on := 18, ground := Ground.phase }, { on := 19, ground := Ground.phase }, { on := 20, ground := Ground.phase }], guard := none } : Oper)) rfl (fun K hK => ?_) AllReadyH.nil
  have zz := (hHeld.2.2.2.2.2.2.2.2.2.2.2.2).out
  obtain ⟨s9, k9, n9, lo9, hi9, p9, zb, zf⟩ := zz.2.2.1
  have zc0 := zb.c0
  have zf0 := zf.f0
  have zc1 := zb.c1
  have zf1 := zf.f1
  have zc2 := zb.c2
  have zf2 := zf.f2
  have zc3 := zb.c3
  have zf3 := zf.f3
  have zc4 := zb.c4
  have zf4 := zf.f4
  have zc5 := zb.c5
  have zf5 := zf.f5
  go_simp
  have zw := zb.wrote (up (x.s ||| y.s)) (joinI x.k x.n y.k y.n) (joinN x.k x.n y.k y.n) (min x.lo y.lo) (max x.hi y.hi) (up (x.p ||| y.p))
  have zi : Br (st6 v4 (N + 1 + 1) (.int .i64 (up (x.s ||| y.s))) (.bool (joinI x.k x.n y.k y.n)) (.int .i64 (joinN x.k x.n y.k y.n)) (.int .i64 (min x.lo y.lo)) (.int .i64 (max x.hi y.hi)) (.int .i64 (up (x.p ||| y.p)))) N (up x.s) x.k x.n x.lo x.hi (up x.p) ∧ Br (st6 v4 (N + 1 + 1) (.int .i64 (up (x.s ||| y.s))) (.bool (joinI x.k x.n y.k y.n)) (.int .i64 (joinN x.k x.n y.k y.n)) (.int .i64 (min x.lo y.lo)) (.int .i64 (max x.hi y.hi)) (.int .i64 (up (x.p ||| y.p)))) (N + 1) (up y.s) y.k y.n y.lo y.hi (up y.p) ∧ Rw (st6 v4 (N + 1 + 1) (.int .i64 (up (x.s ||| y.s))) (.bool (joinI x.k x.n y.k y.n)) (.int .i64 (joinN x.k x.n y.k y.n)) (.int .i64 (min x.lo y.lo)) (.int .i64 (max x.hi y.hi)) (.int .i64 (up (x.p ||| y.p)))) (N + 1 + 1) ∧ Below N w (st6 v4 (N + 1 + 1) (.int .i64 (up (x.s ||| y.s))) (.bool (joinI x.k x.n y.k y.n)) (.int .i64 (joinN x.k x.n y.k y.n)) (.int .i64 (min x.lo y.lo)) (.int .i64 (max x.hi y.hi)) (.int .i64 (up (x.p ||| y.p)))) := ⟨zz.1.put (by omega) _ _ _ _ _ _, zz.2.1.put (by omega) _ _ _ _ _ _, zz.2.2.1.put (up (x.s ||| y.s)) (joinI x.k x.n y.k y.n) (joinN x.k x.n y.k y.n) (min x.lo y.lo) (max x.hi y.hi) (up (x.p ||| y.p)), st6_below zz.2.2.2 _ (by omega) _ _ _ _ _ _⟩
  refine hK.out _ _ ⟨zi.1.c0, zi.1.c1, zi.1.c2, zi.1.c3, zi.1.c4, zi.1.c5, zi.2.1.c0, zi.2.1.c1, zi.2.1.c2, zi.2.1.c3, zi.2.1.c4, zi.2.1.c5, zi⟩ (fun _ => ?_)
  clear hK K zc0 zf0 zc1 zf1 zc2 zf2 zc3 zf3 zc4 zf4 zc5 zf5
  refine wpAnyH_done (by kernel_rfl) ?_ _
  clear hS0 HCL hHeld g1 g2 g3 g4
  have c0 := zw.c0
  have c1 := zw.c1
  have c2 := zw.c2
  have c3 := zw.c3
  have c4 := zw.c4
  have c5 := zw.c5
  have hB := zi.2.2.2
  clear zi zw zb zf zz
  go_wp2_with fail
  refine bodyPost_ret (by simp [results, Try.results44, go_sem, *]; try rfl) rfl ⟨?_, by rw [← HN.out]; exact hB⟩
  rfl
end Go.Proofs.Ytmhicllhjiglkaa
namespace Go.Proofs.Ytmhicllhjiglkaa
open Go.RowKit
set_option maxRecDepth 100000 in
set_option maxHeartbeats 16000000 in
theorem widen_V (x y : V) (w : World) (hx : x.p &&& 3 = x.p) (hy : y.p &&& 3 = y.p) : Calls Try.prog 46 #[.agg #[.int .i64 (up x.s), .bool x.k, .int .i64 x.n, .int .i64 x.lo, .int .i64 x.hi, .int .i64 (up x.p)], .agg #[.int .i64 (up y.s), .bool y.k, .int .i64 y.n, .int .i64 y.lo, .int .i64 y.hi, .int .i64 (up y.p)]] w fun e w' => e = .returned (.agg #[.int .i64 (up (widenV x y).s), .bool (widenV x y).k, .int .i64 (widenV x y).n, .int .i64 (widenV x y).lo, .int .i64 (widenV x y).hi, .int .i64 (up (widenV x y).p)]) ∧ Below w.heap.size w w' := by
  have c1 := fun w => join_V x y w hx hy
  have HR : Hid (widenV x y = ⟨(joinV x y).s, (joinV x y).k, (joinV x y).n, if (joinV x y).lo < x.lo then -9223372036854775808 else x.lo, if x.hi < (joinV x y).hi then 9223372036854775807 else x.hi, (joinV x y).p⟩) := rfl
  generalize widenV x y = r at *
  generalize joinV x y = j at *
  clear hx hy
  have c2 := fun w => nwiden_any x.lo x.hi j.lo j.hi w
  have HQ : Hid (r.s = j.s ∧ r.k = j.k ∧ r.n = j.n ∧ r.lo = (if j.lo < x.lo then -9223372036854775808 else x.lo) ∧ r.hi = (if x.hi < j.hi then 9223372036854775807 else x.hi) ∧ r.p = j.p) := by rw [HR.out]; exact ⟨rfl, rfl, rfl, rfl, rfl, rfl⟩
  generalize (if j.lo < x.lo then -9223372036854775808 else x.lo : Int) = wl at *
  generalize (if x.hi < j.hi then 9223372036854775807 else x.hi : Int) = wh at *
  have x0 : Br (((w.alloc (.cells #[.int .i64 (up x.s), .bool x.k, .int .i64 x.n, .int .i64 x.lo, .int .i64 x.hi, .int .i64 (up x.p)] 53)).alloc (.cells #[.int .i64 (up y.s), .bool y.k, .int .i64 y.n, .int .i64 y.lo, .int .i64 y.hi, .int .i64 (up y.p)] 53)).alloc (.cells #[.int .i64 0, .bool false, .int .i64 0, .int .i64 0, .int .i64 0, .int .i64 0] 53)) (w.heap.size) (up x.s) x.k x.n x.lo x.hi (up x.p) := (((Br.new w (up x.s) x.k x.n x.lo x.hi (up x.p) 53)).keep ((Below.refl _ _).alloc (Nat.le_refl _) _)).keep ((Below.refl _ _).alloc (Nat.le_refl _) _)
  have x1 : Br (((w.alloc (.cells #[.int .i64 (up x.s), .bool x.k, .int .i64 x.n, .int .i64 x.lo, .int .i64 x.hi, .int .i64 (up x.p)] 53)).alloc (.cells #[.int .i64 (up y.s), .bool y.k, .int .i64 y.n, .int .i64 y.lo, .int .i64 y.hi, .int .i64 (up y.p)] 53)).alloc (.cells #[.int .i64 0, .bool false, .int .i64 0, .int .i64 0, .int .i64 0, .int .i64 0] 53)) (w.heap.size + 1) (up y.s) y.k y.n y.lo y.hi (up y.p) := ((by simpa using Br.new (w.alloc (.cells #[.int .i64 (up x.s), .bool x.k, .int .i64 x.n, .int .i64 x.lo, .int .i64 x.hi, .int .i64 (up x.p)] 53)) (up y.s) y.k y.n y.lo y.hi (up y.p) 53 : Br ((w.alloc (.cells #[.int .i64 (up x.s), .bool x.k, .int .i64 x.n, .int .i64 x.lo, .int .i64 x.hi, .int .i64 (up x.p)] 53)).alloc (.cells #[.int .i64 (up y.s), .bool y.k, .int .i64 y.n, .int .i64 y.lo, .int .i64 y.hi, .int .i64 (up y.p)] 53)) (w.heap.size + 1) (up y.s) y.k y.n y.lo y.hi (up y.p))).keep ((Below.refl _ _).alloc (Nat.le_refl _) _)
  have x2 : Br (((w.alloc (.cells #[.int .i64 (up x.s), .bool x.k, .int .i64 x.n, .int .i64 x.lo, .int .i64 x.hi, .int .i64 (up x.p)] 53)).alloc (.cells #[.int .i64 (up y.s), .bool y.k, .int .i64 y.n, .int .i64 y.lo, .int .i64 y.hi, .int .i64 (up y.p)] 53)).alloc (.cells #[.int .i64 0, .bool false, .int .i64 0, .int .i64 0, .int .i64 0, .int .i64 0] 53)) (w.heap.size + 1 + 1) 0 false 0 0 0 0 := (by simpa using Br.new ((w.alloc (.cells #[.int .i64 (up x.s), .bool x.k, .int .i64 x.n, .int .i64 x.lo, .int .i64 x.hi, .int .i64 (up x.p)] 53)).alloc (.cells #[.int .i64 (up y.s), .bool y.k, .int .i64 y.n, .int .i64 y.lo, .int .i64 y.hi, .int .i64 (up y.p)] 53)) 0 false 0 0 0 0 53 : Br (((w.alloc (.cells #[.int .i64 (up x.s), .bool x.k, .int .i64 x.n, .int .i64 x.lo, .int .i64 x.hi, .int .i64 (up x.p)] 53)).alloc (.cells #[.int .i64 (up y.s), .bool y.k, .int .i64 y.n, .int .i64 y.lo, .int .i64 y.hi, .int .i64 (up y.p)] 53)).alloc (.cells #[.int .i64 0, .bool false, .int .i64 0, .int .i64 0, .int .i64 0, .int .i64 0] 53)) (w.heap.size + 1 + 1) 0 false 0 0 0 0)
  have xf : Fz (((w.alloc (.cells #[.int .i64 (up x.s), .bool x.k, .int .i64 x.n, .int .i64 x.lo, .int .i64 x.hi, .int .i64 (up x.p)] 53)).alloc (.cells #[.int .i64 (up y.s), .bool y.k, .int .i64 y.n, .int .i64 y.lo, .int .i64 y.hi, .int .i64 (up y.p)] 53)).alloc (.cells #[.int .i64 0, .bool false, .int .i64 0, .int .i64 0, .int .i64 0, .int .i64 0] 53)) (w.heap.size + 1 + 1) := by simpa using Fz.new ((w.alloc (.cells #[.int .i64 (up x.s), .bool x.k, .int .i64 x.n, .int .i64 x.lo, .int .i64 x.hi, .int .i64 (up x.p)] 53)).alloc (.cells #[.int .i64 (up y.s), .bool y.k, .int .i64 y.n, .int .i64 y.lo, .int .i64 y.hi, .int .i64 (up y.p)] 53)) 0 false 0 0 0 0 53
  have xb : Below w.heap.size w (((w.alloc (.cells #[.int .i64 (up x.s), .bool x.k, .int .i64 x.n, .int .i64 x.lo, .int .i64 x.hi, .int .i64 (up x.p)] 53)).alloc (.cells #[.int .i64 (up y.s), .bool y.k, .int .i64 y.n, .int .i64 y.lo, .int .i64 y.hi, .int .i64 (up y.p)] 53)).alloc (.cells #[.int .i64 0, .bool false, .int .i64 0, .int .i64 0, .int .i64 0, .int .i64 0] 53)) := (by repeat (first | exact Below.refl _ _ | (refine Below.drew ?_) | (refine below_drewN ?_ _) | (refine Below.setCell ?_ (by first | omega | (simp; done) | (simp; omega)) _) | (refine Below.alloc ?_ (by first | omega | (simp; done) | (simp; omega)) _) | (refine Below.trans ?_ (Below.mono (by assumption) (by first | omega | (simp; done) | (simp; omega))))))
  go_enter Try.func46, Try.ntmps46
  go_upto_region 1 with fail
  go_name_world W hW
  rw [hW] at x0 x1 x2 xf xb
  clear hW
  obtain ⟨N, hN⟩ : ∃ N, N = w.heap.size := ⟨_, rfl⟩
  rw [← hN] at x0 x1 x2 xf xb ⊢
  have HN : Hid (N = w.heap.size) := hN
  clear hN
  have HA := hide (And.intro x0 (And.intro x1 (And.intro x2 (And.intro xf xb))))
  clear x0 x1 x2 xf xb
  have a0 := HA.out.1.c0
  have a1 := HA.out.1.c1
  have a2 := HA.out.1.c2
  have a3 := HA.out.1.c3
  have a4 := HA.out.1.c4
  have a5 := HA.out.1.c5
  have b0 := HA.out.2.1.c0
  have b1 := HA.out.2.1.c1
  have b2 := HA.out.2.1.c2
  have b3 := HA.out.2.1.c3
  have b4 := HA.out.2.1.c4
  have b5 := HA.out.2.1.c5
  go_upto_region 2 with (go_at_call 44; refine (c1 _).mono ?_; rintro e wK ⟨rfl, hK⟩)
  go_name_world W2 hW2
  have HB : Hid (Br W2 N (up x.s) x.k x.n x.lo x.hi (up x.p) ∧ Br W2 (N + 1 + 1) 0 false 0 0 0 0 ∧ Fz W2 (N + 1 + 1) ∧ Br W2 wK.heap.size (up j.s) j.k j.n j.lo j.hi (up j.p) ∧ Fz W2 wK.heap.size ∧ Below N w W2) := by
    rw [← hW2]
    have k0 := HA.out.1.keep hK
    have k2 := HA.out.2.2.1.keep hK
    have k3 := HA.out.2.2.2.1.keep HA.out.2.2.1.lt hK
    have k4 := HA.out.2.2.2.2.trans (hK.mono (Nat.le_of_lt HA.out.1.lt))
    exact ⟨k0.keep ((Below.refl _ _).alloc (Nat.le_refl _) _), k2.keep ((Below.refl _ _).alloc (Nat.le_refl _) _), k3.keep k2.lt ((Below.refl _ _).alloc (Nat.le_refl _) _), Br.new _ _ _ _ _ _ _ _, Fz.new _ _ _ _ _ _ _ _, k4.alloc (Nat.le_of_lt k0.lt) _⟩
  have o1 : (N + 1 + 1) < wK.heap.size := (HA.out.2.2.1.keep hK).lt
  clear hW2 hK HA c1 a0 a1 a2 a3 a4 a5 b0 b1 b2 b3 b4 b5
  generalize wK.heap.size = T at *
  have a0 := HB.out.1.c0
  have a1 := HB.out.1.c1
  have a2 := HB.out.1.c2
  have a3 := HB.out.1.c3
  have a4 := HB.out.1.c4
  have a5 := HB.out.1.c5
  have b0 := HB.out.2.2.2.1.c0
  have b1 := HB.out.2.2.2.1.c1
  have b2 := HB.out.2.2.2.1.c2
  have b3 := HB.out.2.2.2.1.c3
  have b4 := HB.out.2.2.2.1.c4
  have b5 := HB.out.2.2.2.1.c5
  go_upto_region 3 with (go_at_call 94; refine (c2 _).mono ?_; rintro e wK ⟨rfl, hK⟩; clear a0 a1 a2 a3 a4 a5 b0 b1 b2 b3 b4 b5; have K := And.intro (HB.out.2.1.keep hK) (And.intro (HB.out.2.2.1.keep HB.out.2.1.lt hK) (And.intro (HB.out.2.2.2.1.keep hK) (And.intro (HB.out.2.2.2.2.1.keep HB.out.2.2.2.1.lt hK) (HB.out.2.2.2.2.2.trans (hK.mono (Nat.le_of_lt HB.out.1.lt)))))); have a0 := K.2.2.1.c0; have a1 := K.2.2.1.c1; have a2 := K.2.2.1.c2; have a3 := K.2.2.1.c3; have a4 := K.2.2.1.c4; have a5 := K.2.2.1.c5; have f0 := K.2.2.2.1.f0; have f1 := K.2.2.2.1.f1; have f2 := K.2.2.2.1.f2; have f3 := K.2.2.2.1.f3; have f4 := K.2.2.2.1.f4; have f5 := K.2.2.2.1.f5)
  go_name_world W3 hW3
  have HC : Hid (Br W3 (N + 1 + 1) 0 false 0 0 0 0 ∧ Fz W3 (N + 1 + 1) ∧ Br W3 T (up j.s) j.k j.n wl wh (up j.p) ∧ Below N w W3) := by
    rw [← hW3]
    exact ⟨K.1.two (by omega) _ _ _ _, K.2.1.two _ _ _ _, K.2.2.1.span _ _, two_below K.2.2.2.2 T _ _ (by omega) _ _⟩
  clear hW3 hK K HB c2 a0 a1 a2 a3 a4 a5 f0 f1 f2 f3 f4 f5
  have a0 := HC.out.1.c0
  have a1 := HC.out.1.c1
  have a2 := HC.out.1.c2
  have a3 := HC.out.1.c3
  have a4 := HC.out.1.c4
  have a5 := HC.out.1.c5
  have f0 := HC.out.2.1.f0
  have f1 := HC.out.2.1.f1
  have f2 := HC.out.2.1.f2
  have f3 := HC.out.2.1.f3
  have f4 := HC.out.2.1.f4
  have f5 := HC.out.2.1.f5
  have b0 := HC.out.2.2.1.c0
  have b1 := HC.out.2.2.1.c1
  have b2 := HC.out.2.2.1.c2
  have b3 := HC.out.2.2.1.c3
  have b4 := HC.out.2.2.1.c4
  have b5 := HC.out.2.2.1.c5
  have hB := HC.out.2.2.2
  go_wp2_with fail
  have zw := HC.out.1.wrote (up j.s) j.k j.n wl wh (up j.p)
  have hZ := st6_below HC.out.2.2.2 (N + 1 + 1) (Nat.le_trans (Nat.le_succ _) (Nat.le_succ _)) (.int .i64 (up j.s)) (.bool j.k) (.int .i64 j.n) (.int .i64 wl) (.int .i64 wh) (.int .i64 (up j.p))
  clear HC hB a0 a1 a2 a3 a4 a5 b0 b1 b2 b3 b4 b5 f0 f1 f2 f3 f4 f5
  have a0 := zw.c0
  have a1 := zw.c1
  have a2 := zw.c2
  have a3 := zw.c3
  have a4 := zw.c4
  have a5 := zw.c5
  clear zw
  refine bodyPost_ret (by simp [results, Try.results46, go_sem, *]; try rfl) rfl ⟨?_, by rw [← HN.out]; exact hZ⟩
  rw [HQ.out.1, HQ.out.2.1, HQ.out.2.2.1, HQ.out.2.2.2.1, HQ.out.2.2.2.2.1, HQ.out.2.2.2.2.2]
end Go.Proofs.Ytmhicllhjiglkaa
