import Derived.Test.YtfndahdnbkmkkaaGa
import Derived.Test.YtfndahdnbkmkkaaGb
import Derived.Test.YtfndahdnbkmkkaaGc
import Derived.Test.YtfndahdnbkmkkaaGd
import Derived.Test.YtfndahdnbkmkkaaGe
import Derived.Test.YtfndahdnbkmkkaaFo
import Derived.Test.YtfndahdnbkmkkaaFh
import Derived.Test.YtfndahdnbkmkkaaFi
import Derived.Test.YtfndahdnbkmkkaaFj
import Derived.Test.YtfndahdnbkmkkaaFwW
namespace Go.Proofs.Ytfndahdnbkmkkaa
open Go.RowKit
set_option maxRecDepth 100000 in
set_option maxHeartbeats 32000000 in
theorem fsets_walk (A B : R) (n : Int) (w : World) (hA : i64 A.n ∧ i64 A.lo ∧ i64 A.hi) (hB : i64 B.n ∧ i64 B.lo ∧ i64 B.hi) (hn : i64 n) : Calls Try.prog 3 #[.agg #[.int .i64 A.s, .bool A.k, .int .i64 A.n, .int .i64 A.lo, .int .i64 A.hi, .int .i64 A.p], .agg #[.int .i64 B.s, .bool B.k, .int .i64 B.n, .int .i64 B.lo, .int .i64 B.hi, .int .i64 B.p], .int .i64 n] w fun e w' => e = .returned (.bool true) ∧ Below w.heap.size w w' := by
  have cA := fun w => fix_V A.s A.k A.n A.lo A.hi A.p w
  have oX := fix_ok A.s A.k A.n A.lo A.hi A.p hA.1 hA.2.1 hA.2.2
  have cB := fun w => fix_V B.s B.k B.n B.lo B.hi B.p w
  have oY := fix_ok B.s B.k B.n B.lo B.hi B.p hB.1 hB.2.1 hB.2.2
  generalize fixV A.s A.k A.n A.lo A.hi A.p = X at *
  generalize fixV B.s B.k B.n B.lo B.hi B.p = Y at *
  clear hA hB
  have m1 := fun w => meet_V X Y w oX.p3 oY.p3
  have m2 := fun w => meetr_V X Y w
  have j1 := fun w => join_V X Y w oX.p3 oY.p3
  have j2 := fun w => joinr_V X Y w
  have i1 := fun w => within_V X Y w oX.p3 oY.p3
  have i2 := fun w => withinr_V X Y w
  have w1 := fun w => widen_V X Y w oX.p3 oY.p3
  have w2 := fun w => widenr_V X Y w
  have h1 := fun w => has_V X n w
  have h2 := fun w => hasr_V X n w hn
  have a1 := any_V
  have a2 := anyr_V
  have p1 := fun w => of_V n w
  have p2 := fun w => ofr_V n w hn
  have rr := fun w => right_V A.s A.k A.n A.lo A.hi A.p w
  have rs := fun w => rightr_V A.s A.k A.n A.lo A.hi A.p w
  clear oX oY hn
  generalize meetV X Y = M at *
  generalize joinV X Y = J at *
  generalize withinV X Y = bW at *
  generalize widenV X Y = WI at *
  generalize hasV X n = bH at *
  generalize anyV = VA at *
  generalize ofV n = VO at *
  generalize rightR A.s A.k A.n A.lo A.hi A.p = bR at *
  obtain ⟨m, ok⟩ := M
  dsimp only at m1 m2
  have xg : Fz ((w.alloc (.cells #[.int .i64 A.s, .bool A.k, .int .i64 A.n, .int .i64 A.lo, .int .i64 A.hi, .int .i64 A.p] 27)).alloc (.cells #[.int .i64 B.s, .bool B.k, .int .i64 B.n, .int .i64 B.lo, .int .i64 B.hi, .int .i64 B.p] 27)) (w.heap.size) := (Fz.new w A.s A.k A.n A.lo A.hi A.p 27).keep (by simp) ((Below.refl _ _).alloc (Nat.le_refl _) _)
  have xh : Fz ((w.alloc (.cells #[.int .i64 A.s, .bool A.k, .int .i64 A.n, .int .i64 A.lo, .int .i64 A.hi, .int .i64 A.p] 27)).alloc (.cells #[.int .i64 B.s, .bool B.k, .int .i64 B.n, .int .i64 B.lo, .int .i64 B.hi, .int .i64 B.p] 27)) (w.heap.size + 1) := by simpa using Fz.new (w.alloc (.cells #[.int .i64 A.s, .bool A.k, .int .i64 A.n, .int .i64 A.lo, .int .i64 A.hi, .int .i64 A.p] 27)) B.s B.k B.n B.lo B.hi B.p 27
  have x0 : Br ((w.alloc (.cells #[.int .i64 A.s, .bool A.k, .int .i64 A.n, .int .i64 A.lo, .int .i64 A.hi, .int .i64 A.p] 27)).alloc (.cells #[.int .i64 B.s, .bool B.k, .int .i64 B.n, .int .i64 B.lo, .int .i64 B.hi, .int .i64 B.p] 27)) (w.heap.size) A.s A.k A.n A.lo A.hi A.p := ((Br.new w A.s A.k A.n A.lo A.hi A.p 27)).keep ((Below.refl _ _).alloc (Nat.le_refl _) _)
  have x1 : Br ((w.alloc (.cells #[.int .i64 A.s, .bool A.k, .int .i64 A.n, .int .i64 A.lo, .int .i64 A.hi, .int .i64 A.p] 27)).alloc (.cells #[.int .i64 B.s, .bool B.k, .int .i64 B.n, .int .i64 B.lo, .int .i64 B.hi, .int .i64 B.p] 27)) (w.heap.size + 1) B.s B.k B.n B.lo B.hi B.p := (by simpa using Br.new (w.alloc (.cells #[.int .i64 A.s, .bool A.k, .int .i64 A.n, .int .i64 A.lo, .int .i64 A.hi, .int .i64 A.p] 27)) B.s B.k B.n B.lo B.hi B.p 27 : Br ((w.alloc (.cells #[.int .i64 A.s, .bool A.k, .int .i64 A.n, .int .i64 A.lo, .int .i64 A.hi, .int .i64 A.p] 27)).alloc (.cells #[.int .i64 B.s, .bool B.k, .int .i64 B.n, .int .i64 B.lo, .int .i64 B.hi, .int .i64 B.p] 27)) (w.heap.size + 1) B.s B.k B.n B.lo B.hi B.p)
  have xb : Below w.heap.size w ((w.alloc (.cells #[.int .i64 A.s, .bool A.k, .int .i64 A.n, .int .i64 A.lo, .int .i64 A.hi, .int .i64 A.p] 27)).alloc (.cells #[.int .i64 B.s, .bool B.k, .int .i64 B.n, .int .i64 B.lo, .int .i64 B.hi, .int .i64 B.p] 27)) := (by repeat (first | exact Below.refl _ _ | (refine Below.drew ?_) | (refine below_drewN ?_ _) | (refine Below.setCell ?_ (by first | omega | (simp; done) | (simp; omega)) _) | (refine Below.alloc ?_ (by first | omega | (simp; done) | (simp; omega)) _) | (refine Below.trans ?_ (Below.mono (by assumption) (by first | omega | (simp; done) | (simp; omega))))))
  go_enter Try.func3, Try.ntmps3
  go_upto_region 1 with fail
  go_name_world W hW
  rw [hW] at x0 x1 xb xg xh
  clear hW
  obtain ⟨N, hN⟩ : ∃ N, N = w.heap.size := ⟨_, rfl⟩
  rw [← hN] at x0 x1 xb xg xh ⊢
  have HN : Hid (N = w.heap.size) := hN
  clear hN
  have HCL : Hid (∀ a b : World, (a.cell? ⟨N, 0, none⟩ = some (.int .i64 A.s) ∧ a.cell? ⟨N, 1, none⟩ = some (.bool A.k) ∧ a.cell? ⟨N, 2, none⟩ = some (.int .i64 A.n) ∧ a.cell? ⟨N, 3, none⟩ = some (.int .i64 A.lo) ∧ a.cell? ⟨N, 4, none⟩ = some (.int .i64 A.hi) ∧ a.cell? ⟨N, 5, none⟩ = some (.int .i64 A.p) ∧ a.cell? ⟨(N + 1), 0, none⟩ = some (.int .i64 B.s) ∧ a.cell? ⟨(N + 1), 1, none⟩ = some (.bool B.k) ∧ a.cell? ⟨(N + 1), 2, none⟩ = some (.int .i64 B.n) ∧ a.cell? ⟨(N + 1), 3, none⟩ = some (.int .i64 B.lo) ∧ a.cell? ⟨(N + 1), 4, none⟩ = some (.int .i64 B.hi) ∧ a.cell? ⟨(N + 1), 5, none⟩ = some (.int .i64 B.p) ∧ Hid (Br a N A.s A.k A.n A.lo A.hi A.p ∧ Br a (N + 1) B.s B.k B.n B.lo B.hi B.p ∧ Rw a N ∧ Rw a (N + 1) ∧ Below N w a)) → Below a.heap.size a b → (b.cell? ⟨N, 0, none⟩ = some (.int .i64 A.s) ∧ b.cell? ⟨N, 1, none⟩ = some (.bool A.k) ∧ b.cell? ⟨N, 2, none⟩ = some (.int .i64 A.n) ∧ b.cell? ⟨N, 3, none⟩ = some (.int .i64 A.lo) ∧ b.cell? ⟨N, 4, none⟩ = some (.int .i64 A.hi) ∧ b.cell? ⟨N, 5, none⟩ = some (.int .i64 A.p) ∧ b.cell? ⟨(N + 1), 0, none⟩ = some (.int .i64 B.s) ∧ b.cell? ⟨(N + 1), 1, none⟩ = some (.bool B.k) ∧ b.cell? ⟨(N + 1), 2, none⟩ = some (.int .i64 B.n) ∧ b.cell? ⟨(N + 1), 3, none⟩ = some (.int .i64 B.lo) ∧ b.cell? ⟨(N + 1), 4, none⟩ = some (.int .i64 B.hi) ∧ b.cell? ⟨(N + 1), 5, none⟩ = some (.int .i64 B.p) ∧ Hid (Br b N A.s A.k A.n A.lo A.hi A.p ∧ Br b (N + 1) B.s B.k B.n B.lo B.hi B.p ∧ Rw b N ∧ Rw b (N + 1) ∧ Below N w b))) := fun a b h hb => by
    have y9 := (h.2.2.2.2.2.2.2.2.2.2.2.2).out
    have z9 : Br b N A.s A.k A.n A.lo A.hi A.p ∧ Br b (N + 1) B.s B.k B.n B.lo B.hi B.p ∧ Rw b N ∧ Rw b (N + 1) ∧ Below N w b := ⟨y9.1.keep hb, y9.2.1.keep hb, y9.2.2.1.keep hb, y9.2.2.2.1.keep hb, y9.2.2.2.2.trans (hb.mono (Nat.le_of_lt y9.1.lt))⟩
    exact ⟨z9.1.c0, z9.1.c1, z9.1.c2, z9.1.c3, z9.1.c4, z9.1.c5, z9.2.1.c0, z9.2.1.c1, z9.2.1.c2, z9.2.1.c3, z9.2.1.c4, z9.2.1.c5, z9⟩
  have z0 : Br W N A.s A.k A.n A.lo A.hi A.p ∧ Br W (N + 1) B.s B.k B.n B.lo B.hi B.p ∧ Rw W N ∧ Rw W (N + 1) ∧ Below N w W := ⟨x0, x1, ⟨_, _, _, _, _, _, x0, xg⟩, ⟨_, _, _, _, _, _, x1, xh⟩, xb⟩
  have hS0 : W.cell? ⟨N, 0, none⟩ = some (.int .i64 A.s) ∧ W.cell? ⟨N, 1, none⟩ = some (.bool A.k) ∧ W.cell? ⟨N, 2, none⟩ = some (.int .i64 A.n) ∧ W.cell? ⟨N, 3, none⟩ = some (.int .i64 A.lo) ∧ W.cell? ⟨N, 4, none⟩ = some (.int .i64 A.hi) ∧ W.cell? ⟨N, 5, none⟩ = some (.int .i64 A.p) ∧ W.cell? ⟨(N + 1), 0, none⟩ = some (.int .i64 B.s) ∧ W.cell? ⟨(N + 1), 1, none⟩ = some (.bool B.k) ∧ W.cell? ⟨(N + 1), 2, none⟩ = some (.int .i64 B.n) ∧ W.cell? ⟨(N + 1), 3, none⟩ = some (.int .i64 B.lo) ∧ W.cell? ⟨(N + 1), 4, none⟩ = some (.int .i64 B.hi) ∧ W.cell? ⟨(N + 1), 5, none⟩ = some (.int .i64 B.p) ∧ Hid (Br W N A.s A.k A.n A.lo A.hi A.p ∧ Br W (N + 1) B.s B.k B.n B.lo B.hi B.p ∧ Rw W N ∧ Rw W (N + 1) ∧ Below N w W) := ⟨z0.1.c0, z0.1.c1, z0.1.c2, z0.1.c3, z0.1.c4, z0.1.c5, z0.2.1.c0, z0.2.1.c1, z0.2.1.c2, z0.2.1.c3, z0.2.1.c4, z0.2.1.c5, z0⟩
  clear x0 x1 xg xh xb z0
  refine wp_region_held_drew (S := fun w' => w'.cell? ⟨N, 0, none⟩ = some (.int .i64 A.s) ∧ w'.cell? ⟨N, 1, none⟩ = some (.bool A.k) ∧ w'.cell? ⟨N, 2, none⟩ = some (.int .i64 A.n) ∧ w'.cell? ⟨N, 3, none⟩ = some (.int .i64 A.lo) ∧ w'.cell? ⟨N, 4, none⟩ = some (.int .i64 A.hi) ∧ w'.cell? ⟨N, 5, none⟩ = some (.int .i64 A.p) ∧ w'.cell? ⟨(N + 1), 0, none⟩ = some (.int .i64 B.s) ∧ w'.cell? ⟨(N + 1), 1, none⟩ = some (.bool B.k) ∧ w'.cell? ⟨(N + 1), 2, none⟩ = some (.int .i64 B.n) ∧ w'.cell? ⟨(N + 1), 3, none⟩ = some (.int .i64 B.lo) ∧ w'.cell? ⟨(N + 1), 4, none⟩ = some (.int .i64 B.hi) ∧ w'.cell? ⟨(N + 1), 5, none⟩ = some (.int .i64 B.p) ∧ Hid (Br w' N A.s A.k A.n A.lo A.hi A.p ∧ Br w' (N + 1) B.s B.k B.n B.lo B.hi B.p ∧ Rw w' N ∧ Rw w' (N + 1) ∧ Below N w w')) (by kernel_rfl) (HCL.out _ _ hS0 ((Below.refl _ _).drew)) (fun hHeld => ?_)
  refine wpAnyH_take (i := 0) (oi := ({ dst := some 12, op := Op.load 27 (Operand.tmp 3), type := 27, pos := "law.go:31", after := #[], guard := none } : Oper)) (v := ?_) rfl (by kernel_rfl) (by kernel_rfl) (by kernel_rfl) (fun _ _ _ h => h) (Or.inl ⟨by rfl, ?_⟩) (by assumption) ?_
  rotate_left
  · (intro wz hSw; (try dsimp only at hSw); go_simp; try with_reducible rfl)
  simp only [Act.put, List.setIfInBounds_toArray, List.set_cons_zero, List.set_cons_succ]
  refine wpAnyH_take (i := 3) (oi := ({ dst := some 15, op := Op.load 27 (Operand.tmp 3), type := 27, pos := "law.go:31", after := #[], guard := none } : Oper)) (v := ?_) rfl (by kernel_rfl) (by kernel_rfl) (by kernel_rfl) (fun _ _ _ h => h) (Or.inl ⟨by rfl, ?_⟩) (by assumption) ?_
  rotate_left
  · (intro wz hSw; (try dsimp only at hSw); go_simp; try with_reducible rfl)
  simp only [Act.put, List.setIfInBounds_toArray, List.set_cons_zero, List.set_cons_succ]
  refine wpAnyH_ready (rs := [1]) (by kernel_rfl) (by simp) ?_
  refine AllReadyH.cons (o := ({ dst := some 13, op := Op.call { callee := Callee.value (Operand.func 7), args := #[Operand.tmp 12], argTypes := #[27] }, type := 32, pos := "law.go:31", after := #[{ on := 0, ground := Ground.data }], guard := none } : Oper)) rfl (fun K hK => ?_) AllReadyH.nil
  go_simp
  go_at_call 7
  refine (lift (to_V _ _ _ _ _ _ _) (by assumption) HCL.out).mono ?_
  rintro e v1 ⟨rfl, g1⟩
  clear hHeld
  refine hK.out _ _ g1 (fun hHeld => ?_)
  clear hK K
  refine wpAnyH_ready (rs := [2]) (by kernel_rfl) (by simp) ?_
  refine AllReadyH.cons (o := ({ dst := some 14, op := Op.call { callee := Callee.value (Operand.func 6), args := #[Operand.tmp 13], argTypes := #[32] }, type := 4, pos := "law.go:31", after := #[{ on := 1, ground := Ground.data }, { on := 1, ground := Ground.chain }], guard := none } : Oper)) rfl (fun K hK => ?_) AllReadyH.nil
  go_simp
  go_at_call 6
  refine (lift (rr _) (by assumption) HCL.out).mono ?_
  rintro e v2 ⟨rfl, g2⟩
  clear hHeld g1
  refine hK.out _ _ g2 (fun hHeld => ?_)
  clear hK K
  refine wpAnyH_ready (rs := [4]) (by kernel_rfl) (by simp) ?_
  refine AllReadyH.cons (o := ({ dst := some 16, op := Op.call { callee := Callee.value (Operand.func 8), args := #[Operand.tmp 15], argTypes := #[27] }, type := 4, pos := "law.go:31", after := #[{ on := 3, ground := Ground.data }, { on := 2, ground := Ground.chain }], guard := none } : Oper)) rfl (fun K hK => ?_) AllReadyH.nil
  go_simp
  go_at_call 8
  refine (lift (rs _) (by assumption) HCL.out).mono ?_
  rintro e v3 ⟨rfl, g3⟩
  clear hHeld g2
  refine hK.out _ _ g3 (fun hHeld => ?_)
  clear hK K
  refine wpAnyH_take (i := 5) (oi := ({ dst := some 17, op := Op.binOp BinOp.eql 4 (Operand.tmp 14) (Operand.tmp 16) 4, type := 4, pos := "law.go:31", after := #[{ on := 2, ground := Ground.data }, { on := 4, ground := Ground.data }], guard := none } : Oper)) (v := ?_) rfl (by kernel_rfl) (by kernel_rfl) (by kernel_rfl) (fun _ _ _ h => h) (Or.inl ⟨by rfl, ?_⟩) (by assumption) ?_
  rotate_left
  · (intro wz hSw; (try dsimp only at hSw); go_simp; try with_reducible rfl)
  simp only [Act.put, List.setIfInBounds_toArray, List.set_cons_zero, List.set_cons_succ]
  refine wpAnyH_take (i := 6) (oi := ({ dst := some 7, op := Op.assign (Operand.tmp 17), type := 4, pos := "law.go:31", after := #[{ on := 5, ground := Ground.data }, { on := 4, ground := Ground.chain }, { on := 0, ground := Ground.phase }, { on := 1, ground := Ground.phase }, { on := 2, ground := Ground.phase }, { on := 3, ground := Ground.phase }, { on := 4, ground := Ground.phase }, { on := 5, ground := Ground.phase }], guard := none } : Oper)) (v := ?_) rfl (by kernel_rfl) (by kernel_rfl) (by kernel_rfl) (fun _ _ _ h => h) (Or.inl ⟨by rfl, ?_⟩) (by assumption) ?_
  rotate_left
  · (intro wz hSw; (try dsimp only at hSw); go_simp; try with_reducible rfl)
  simp only [Act.put, List.setIfInBounds_toArray, List.set_cons_zero, List.set_cons_succ]
  refine wpAnyH_done (by kernel_rfl) ?_ _
  have y9 := (g3.2.2.2.2.2.2.2.2.2.2.2.2).out
  obtain ⟨_, _, _, _, _, _, _, y3⟩ := y9.2.2.1
  obtain ⟨_, _, _, _, _, _, _, y4⟩ := y9.2.2.2.1
  have R : Hid (Br v3 N A.s A.k A.n A.lo A.hi A.p ∧ Br v3 (N + 1) B.s B.k B.n B.lo B.hi B.p ∧ Fz v3 N ∧ Fz v3 (N + 1) ∧ Below N w v3) := ⟨y9.1, y9.2.1, y3, y4, y9.2.2.2.2⟩
  clear hS0 HCL hHeld y9 y3 y4 rr rs g3
  go_upto_region 2 with fail
  have HCL : Hid (∀ a b : World, (N + 1 < a.heap.size ∧ Hid (Below N w a)) → Below a.heap.size a b → (N + 1 < b.heap.size ∧ Hid (Below N w b))) := fun a b h hb => ⟨Nat.lt_of_lt_of_le h.1 hb.size, h.2.out.trans (hb.mono (Nat.le_trans (Nat.le_succ _) (Nat.le_of_lt h.1)))⟩
  have HPUT : Hid (∀ (a : World) (q : Nat) (t1 t2 t3 t4 t5 t6 : Value), N ≤ q → (N + 1 < a.heap.size ∧ Hid (Below N w a)) → (N + 1 < (st6 a q t1 t2 t3 t4 t5 t6).heap.size ∧ Hid (Below N w (st6 a q t1 t2 t3 t4 t5 t6)))) := fun a q t1 t2 t3 t4 t5 t6 hq h => ⟨by rw [st6_size]; exact h.1, st6_below h.2.out q hq _ _ _ _ _ _⟩
  go_cut [7] (fun v7 wx => v7 = .bool true ∧ Hid (Br wx N (up X.s) X.k X.n X.lo X.hi (up X.p) ∧ Br wx (N + 1) (up Y.s) Y.k Y.n Y.lo Y.hi (up Y.p) ∧ Below N w wx))
  case first =>
    refine wp_region_held_drew (S := fun w' => N + 1 < w'.heap.size ∧ Hid (Below N w w')) (by kernel_rfl) (HCL.out _ _ ⟨R.out.2.1.lt, R.out.2.2.2.2⟩ ((Below.refl _ _).drew)) (fun hH0 => ?_)
    have P0 := R.out.1.keep ((Below.refl v3.heap.size v3).drew)
    have Q0 := R.out.2.1.keep ((Below.refl v3.heap.size v3).drew)
    have FP0 := R.out.2.2.1.keep R.out.1.lt ((Below.refl v3.heap.size v3).drew)
    have FQ0 := R.out.2.2.2.1.keep R.out.2.1.lt ((Below.refl v3.heap.size v3).drew)
    obtain ⟨w0, hw0⟩ : ∃ w0, w0 = v3.drew := ⟨_, rfl⟩
    rw [← hw0] at hH0 P0 Q0 FP0 FQ0 ⊢
    clear hw0
    refine wpAnyH_ready (rs := [0, 2]) (by kernel_rfl) (by simp) ?_
    refine AllReadyH.cons (o := ({ dst := some 18, op := Op.load 27 (Operand.tmp 3), type := 27, pos := "law.go:32", after := #[], guard := none } : Oper)) rfl (fun K hK => ?_) (AllReadyH.cons (o := ({ dst := some 20, op := Op.load 27 (Operand.tmp 4), type := 27, pos := "law.go:32", after := #[], guard := none } : Oper)) rfl (fun K hK => ?_) AllReadyH.nil)
    · have c0 := P0.c0
      have c1 := P0.c1
      have c2 := P0.c2
      have c3 := P0.c3
      have c4 := P0.c4
      have c5 := P0.c5
      have d0 := Q0.c0
      have d1 := Q0.c1
      have d2 := Q0.c2
      have d3 := Q0.c3
      have d4 := Q0.c4
      have d5 := Q0.c5
      go_simp
      refine hK.out _ _ hH0 (fun _ => ?_)
      clear hK K c0 c1 c2 c3 c4 c5 d0 d1 d2 d3 d4 d5
      refine wpAnyH_ready (rs := [1, 2]) (by kernel_rfl) (by simp) ?_
      refine AllReadyH.cons (o := ({ dst := some 19, op := Op.call { callee := Callee.value (Operand.func 9), args := #[Operand.tmp 18], argTypes := #[27] }, type := 27, pos := "law.go:32", after := #[{ on := 0, ground := Ground.data }], guard := none } : Oper)) rfl (fun K hK => ?_) (AllReadyH.cons (o := ({ dst := some 20, op := Op.load 27 (Operand.tmp 4), type := 27, pos := "law.go:32", after := #[], guard := none } : Oper)) rfl (fun K hK => ?_) AllReadyH.nil)
      · go_simp
        go_at_call 9
        refine (cA _).mono ?_
        rintro e w1 ⟨rfl, hb⟩
        have P1 := P0.keep hb
        have Q1 := Q0.keep hb
        have FP1 := FP0.keep P0.lt hb
        have FQ1 := FQ0.keep Q0.lt hb
        refine hK.out _ _ (HCL.out _ _ hH0 hb) (fun hH1 => ?_)
        clear hK K hb P0 Q0 FP0 FQ0 hH0
        refine wpAnyH_ready (rs := [2]) (by kernel_rfl) (by simp) ?_
        refine AllReadyH.cons (o := ({ dst := some 20, op := Op.load 27 (Operand.tmp 4), type := 27, pos := "law.go:32", after := #[], guard := none } : Oper)) rfl (fun K hK => ?_) AllReadyH.nil
        · have c0 := P1.c0
          have c1 := P1.c1
          have c2 := P1.c2
          have c3 := P1.c3
          have c4 := P1.c4
          have c5 := P1.c5
          have d0 := Q1.c0
          have d1 := Q1.c1
          have d2 := Q1.c2
          have d3 := Q1.c3
          have d4 := Q1.c4
          have d5 := Q1.c5
          go_simp
          refine hK.out _ _ hH1 (fun _ => ?_)
          clear hK K c0 c1 c2 c3 c4 c5 d0 d1 d2 d3 d4 d5
          refine wpAnyH_ready (rs := [3]) (by kernel_rfl) (by simp) ?_
          refine AllReadyH.cons (o := ({ dst := some 21, op := Op.call { callee := Callee.value (Operand.func 9), args := #[Operand.tmp 20], argTypes := #[27] }, type := 27, pos := "law.go:32", after := #[{ on := 2, ground := Ground.data }, { on := 1, ground := Ground.chain }], guard := none } : Oper)) rfl (fun K hK => ?_) AllReadyH.nil
          · go_simp
            go_at_call 9
            refine (cB _).mono ?_
            rintro e w2 ⟨rfl, hb⟩
            have P2 := P1.keep hb
            have Q2 := Q1.keep hb
            have FP2 := FP1.keep P1.lt hb
            have FQ2 := FQ1.keep Q1.lt hb
            refine hK.out _ _ (HCL.out _ _ hH1 hb) (fun hH2 => ?_)
            clear hK K hb P1 Q1 FP1 FQ1 hH1
            refine wpAnyH_ready (rs := [4]) (by kernel_rfl) (by simp) ?_
            refine AllReadyH.cons (o := ({ dst := none, op := Op.store 27 (Operand.tmp 3) (Operand.tmp 19), type := 0, pos := "law.go:32", after := #[{ on := 1, ground := Ground.data }, { on := 3, ground := Ground.chain }, { on := 0, ground := Ground.phase }, { on := 1, ground := Ground.phase }, { on := 2, ground := Ground.textOnly Departure.lateStores }, { on := 3, ground := Ground.textOnly Departure.lateStoresUnsure }], guard := none } : Oper)) rfl (fun K hK => ?_) AllReadyH.nil
            · have c0 := P2.c0
              have c1 := P2.c1
              have c2 := P2.c2
              have c3 := P2.c3
              have c4 := P2.c4
              have c5 := P2.c5
              have f0 := FP2.f0
              have f1 := FP2.f1
              have f2 := FP2.f2
              have f3 := FP2.f3
              have f4 := FP2.f4
              have f5 := FP2.f5
              go_simp
              have P3 := P2.wrote (up X.s) X.k X.n X.lo X.hi (up X.p)
              have Q3 := Q2.put (q := N) (by omega) (.int .i64 (up X.s)) (.bool X.k) (.int .i64 X.n) (.int .i64 X.lo) (.int .i64 X.hi) (.int .i64 (up X.p))
              have FP3 := FP2.put (q := N) (.int .i64 (up X.s)) (.bool X.k) (.int .i64 X.n) (.int .i64 X.lo) (.int .i64 X.hi) (.int .i64 (up X.p))
              have FQ3 := FQ2.put (q := N) (.int .i64 (up X.s)) (.bool X.k) (.int .i64 X.n) (.int .i64 X.lo) (.int .i64 X.hi) (.int .i64 (up X.p))
              refine hK.out _ _ (HPUT.out _ N _ _ _ _ _ _ (by omega) hH2) (fun hH3 => ?_)
              clear hK K c0 c1 c2 c3 c4 c5 f0 f1 f2 f3 f4 f5
              obtain ⟨w3, hw3⟩ : ∃ x, x = ((((((w2.setCell ⟨N, 0, none⟩ (.int .i64 (up X.s))).setCell ⟨N, 1, none⟩ (.bool X.k)).setCell ⟨N, 2, none⟩ (.int .i64 X.n)).setCell ⟨N, 3, none⟩ (.int .i64 X.lo)).setCell ⟨N, 4, none⟩ (.int .i64 X.hi)).setCell ⟨N, 5, none⟩ (.int .i64 (up X.p))) := ⟨_, rfl⟩
              unfold st6 at hH3 P3 Q3 FP3 FQ3
              rw [← hw3] at hH3 P3 Q3 FP3 FQ3 ⊢
              clear hw3 P2 Q2 FP2 FQ2 hH2
              refine wpAnyH_ready (rs := [5]) (by kernel_rfl) (by simp) ?_
              refine AllReadyH.cons (o := ({ dst := none, op := Op.store 27 (Operand.tmp 4) (Operand.tmp 21), type := 0, pos := "law.go:32", after := #[{ on := 3, ground := Ground.data }, { on := 4, ground := Ground.chain }, { on := 0, ground := Ground.phase }, { on := 1, ground := Ground.phase }, { on := 2, ground := Ground.phase }, { on := 3, ground := Ground.phase }, { on := 4, ground := Ground.phase }], guard := none } : Oper)) rfl (fun K hK => ?_) AllReadyH.nil
              · have c0 := Q3.c0
                have c1 := Q3.c1
                have c2 := Q3.c2
                have c3 := Q3.c3
                have c4 := Q3.c4
                have c5 := Q3.c5
                have f0 := FQ3.f0
                have f1 := FQ3.f1
                have f2 := FQ3.f2
                have f3 := FQ3.f3
                have f4 := FQ3.f4
                have f5 := FQ3.f5
                go_simp
                have Q4 := Q3.wrote (up Y.s) Y.k Y.n Y.lo Y.hi (up Y.p)
                have P4 := P3.put (q := (N + 1)) (by omega) (.int .i64 (up Y.s)) (.bool Y.k) (.int .i64 Y.n) (.int .i64 Y.lo) (.int .i64 Y.hi) (.int .i64 (up Y.p))
                have FP4 := FP3.put (q := (N + 1)) (.int .i64 (up Y.s)) (.bool Y.k) (.int .i64 Y.n) (.int .i64 Y.lo) (.int .i64 Y.hi) (.int .i64 (up Y.p))
                have FQ4 := FQ3.put (q := (N + 1)) (.int .i64 (up Y.s)) (.bool Y.k) (.int .i64 Y.n) (.int .i64 Y.lo) (.int .i64 Y.hi) (.int .i64 (up Y.p))
                refine hK.out _ _ (HPUT.out _ (N + 1) _ _ _ _ _ _ (by omega) hH3) (fun hH4 => ?_)
                clear hK K c0 c1 c2 c3 c4 c5 f0 f1 f2 f3 f4 f5
                obtain ⟨w4, hw4⟩ : ∃ x, x = ((((((w3.setCell ⟨N + 1, 0, none⟩ (.int .i64 (up Y.s))).setCell ⟨N + 1, 1, none⟩ (.bool Y.k)).setCell ⟨N + 1, 2, none⟩ (.int .i64 Y.n)).setCell ⟨N + 1, 3, none⟩ (.int .i64 Y.lo)).setCell ⟨N + 1, 4, none⟩ (.int .i64 Y.hi)).setCell ⟨N + 1, 5, none⟩ (.int .i64 (up Y.p))) := ⟨_, rfl⟩
                unfold st6 at hH4 P4 Q4 FP4 FQ4
                rw [← hw4] at hH4 P4 Q4 FP4 FQ4 ⊢
                clear hw4 P3 Q3 FP3 FQ3 hH3
                refine wpAnyH_done (by kernel_rfl) ?_ _
                go_wp2
                go_meet
                case rel => exact ⟨rfl, P4, Q4, hH4.2.out⟩
      · have c0 := P0.c0
        have c1 := P0.c1
        have c2 := P0.c2
        have c3 := P0.c3
        have c4 := P0.c4
        have c5 := P0.c5
        have d0 := Q0.c0
        have d1 := Q0.c1
        have d2 := Q0.c2
        have d3 := Q0.c3
        have d4 := Q0.c4
        have d5 := Q0.c5
        go_simp
        refine hK.out _ _ hH0 (fun _ => ?_)
        clear hK K c0 c1 c2 c3 c4 c5 d0 d1 d2 d3 d4 d5
        refine wpAnyH_ready (rs := [1]) (by kernel_rfl) (by simp) ?_
        refine AllReadyH.cons (o := ({ dst := some 19, op := Op.call { callee := Callee.value (Operand.func 9), args := #[Operand.tmp 18], argTypes := #[27] }, type := 27, pos := "law.go:32", after := #[{ on := 0, ground := Ground.data }], guard := none } : Oper)) rfl (fun K hK => ?_) AllReadyH.nil
        · go_simp
          go_at_call 9
          refine (cA _).mono ?_
          rintro e w1 ⟨rfl, hb⟩
          have P1 := P0.keep hb
          have Q1 := Q0.keep hb
          have FP1 := FP0.keep P0.lt hb
          have FQ1 := FQ0.keep Q0.lt hb
          refine hK.out _ _ (HCL.out _ _ hH0 hb) (fun hH1 => ?_)
          clear hK K hb P0 Q0 FP0 FQ0 hH0
          refine wpAnyH_ready (rs := [3]) (by kernel_rfl) (by simp) ?_
          refine AllReadyH.cons (o := ({ dst := some 21, op := Op.call { callee := Callee.value (Operand.func 9), args := #[Operand.tmp 20], argTypes := #[27] }, type := 27, pos := "law.go:32", after := #[{ on := 2, ground := Ground.data }, { on := 1, ground := Ground.chain }], guard := none } : Oper)) rfl (fun K hK => ?_) AllReadyH.nil
          · go_simp
            go_at_call 9
            refine (cB _).mono ?_
            rintro e w2 ⟨rfl, hb⟩
            have P2 := P1.keep hb
            have Q2 := Q1.keep hb
            have FP2 := FP1.keep P1.lt hb
            have FQ2 := FQ1.keep Q1.lt hb
            refine hK.out _ _ (HCL.out _ _ hH1 hb) (fun hH2 => ?_)
            clear hK K hb P1 Q1 FP1 FQ1 hH1
            refine wpAnyH_ready (rs := [4]) (by kernel_rfl) (by simp) ?_
            refine AllReadyH.cons (o := ({ dst := none, op := Op.store 27 (Operand.tmp 3) (Operand.tmp 19), type := 0, pos := "law.go:32", after := #[{ on := 1, ground := Ground.data }, { on := 3, ground := Ground.chain }, { on := 0, ground := Ground.phase }, { on := 1, ground := Ground.phase }, { on := 2, ground := Ground.textOnly Departure.lateStores }, { on := 3, ground := Ground.textOnly Departure.lateStoresUnsure }], guard := none } : Oper)) rfl (fun K hK => ?_) AllReadyH.nil
            · have c0 := P2.c0
              have c1 := P2.c1
              have c2 := P2.c2
              have c3 := P2.c3
              have c4 := P2.c4
              have c5 := P2.c5
              have f0 := FP2.f0
              have f1 := FP2.f1
              have f2 := FP2.f2
              have f3 := FP2.f3
              have f4 := FP2.f4
              have f5 := FP2.f5
              go_simp
              have P3 := P2.wrote (up X.s) X.k X.n X.lo X.hi (up X.p)
              have Q3 := Q2.put (q := N) (by omega) (.int .i64 (up X.s)) (.bool X.k) (.int .i64 X.n) (.int .i64 X.lo) (.int .i64 X.hi) (.int .i64 (up X.p))
              have FP3 := FP2.put (q := N) (.int .i64 (up X.s)) (.bool X.k) (.int .i64 X.n) (.int .i64 X.lo) (.int .i64 X.hi) (.int .i64 (up X.p))
              have FQ3 := FQ2.put (q := N) (.int .i64 (up X.s)) (.bool X.k) (.int .i64 X.n) (.int .i64 X.lo) (.int .i64 X.hi) (.int .i64 (up X.p))
              refine hK.out _ _ (HPUT.out _ N _ _ _ _ _ _ (by omega) hH2) (fun hH3 => ?_)
              clear hK K c0 c1 c2 c3 c4 c5 f0 f1 f2 f3 f4 f5
              obtain ⟨w3, hw3⟩ : ∃ x, x = ((((((w2.setCell ⟨N, 0, none⟩ (.int .i64 (up X.s))).setCell ⟨N, 1, none⟩ (.bool X.k)).setCell ⟨N, 2, none⟩ (.int .i64 X.n)).setCell ⟨N, 3, none⟩ (.int .i64 X.lo)).setCell ⟨N, 4, none⟩ (.int .i64 X.hi)).setCell ⟨N, 5, none⟩ (.int .i64 (up X.p))) := ⟨_, rfl⟩
              unfold st6 at hH3 P3 Q3 FP3 FQ3
              rw [← hw3] at hH3 P3 Q3 FP3 FQ3 ⊢
              clear hw3 P2 Q2 FP2 FQ2 hH2
              refine wpAnyH_ready (rs := [5]) (by kernel_rfl) (by simp) ?_
              refine AllReadyH.cons (o := ({ dst := none, op := Op.store 27 (Operand.tmp 4) (Operand.tmp 21), type := 0, pos := "law.go:32", after := #[{ on := 3, ground := Ground.data }, { on := 4, ground := Ground.chain }, { on := 0, ground := Ground.phase }, { on := 1, ground := Ground.phase }, { on := 2, ground := Ground.phase }, { on := 3, ground := Ground.phase }, { on := 4, ground := Ground.phase }], guard := none } : Oper)) rfl (fun K hK => ?_) AllReadyH.nil
              · have c0 := Q3.c0
                have c1 := Q3.c1
                have c2 := Q3.c2
                have c3 := Q3.c3
                have c4 := Q3.c4
                have c5 := Q3.c5
                have f0 := FQ3.f0
                have f1 := FQ3.f1
                have f2 := FQ3.f2
                have f3 := FQ3.f3
                have f4 := FQ3.f4
                have f5 := FQ3.f5
                go_simp
                have Q4 := Q3.wrote (up Y.s) Y.k Y.n Y.lo Y.hi (up Y.p)
                have P4 := P3.put (q := (N + 1)) (by omega) (.int .i64 (up Y.s)) (.bool Y.k) (.int .i64 Y.n) (.int .i64 Y.lo) (.int .i64 Y.hi) (.int .i64 (up Y.p))
                have FP4 := FP3.put (q := (N + 1)) (.int .i64 (up Y.s)) (.bool Y.k) (.int .i64 Y.n) (.int .i64 Y.lo) (.int .i64 Y.hi) (.int .i64 (up Y.p))
                have FQ4 := FQ3.put (q := (N + 1)) (.int .i64 (up Y.s)) (.bool Y.k) (.int .i64 Y.n) (.int .i64 Y.lo) (.int .i64 Y.hi) (.int .i64 (up Y.p))
                refine hK.out _ _ (HPUT.out _ (N + 1) _ _ _ _ _ _ (by omega) hH3) (fun hH4 => ?_)
                clear hK K c0 c1 c2 c3 c4 c5 f0 f1 f2 f3 f4 f5
                obtain ⟨w4, hw4⟩ : ∃ x, x = ((((((w3.setCell ⟨N + 1, 0, none⟩ (.int .i64 (up Y.s))).setCell ⟨N + 1, 1, none⟩ (.bool Y.k)).setCell ⟨N + 1, 2, none⟩ (.int .i64 Y.n)).setCell ⟨N + 1, 3, none⟩ (.int .i64 Y.lo)).setCell ⟨N + 1, 4, none⟩ (.int .i64 Y.hi)).setCell ⟨N + 1, 5, none⟩ (.int .i64 (up Y.p))) := ⟨_, rfl⟩
                unfold st6 at hH4 P4 Q4 FP4 FQ4
                rw [← hw4] at hH4 P4 Q4 FP4 FQ4 ⊢
                clear hw4 P3 Q3 FP3 FQ3 hH3
                refine wpAnyH_done (by kernel_rfl) ?_ _
                go_wp2
                go_meet
                case rel => exact ⟨rfl, P4, Q4, hH4.2.out⟩
    · have c0 := P0.c0
      have c1 := P0.c1
      have c2 := P0.c2
      have c3 := P0.c3
      have c4 := P0.c4
      have c5 := P0.c5
      have d0 := Q0.c0
      have d1 := Q0.c1
      have d2 := Q0.c2
      have d3 := Q0.c3
      have d4 := Q0.c4
      have d5 := Q0.c5
      go_simp
      refine hK.out _ _ hH0 (fun _ => ?_)
      clear hK K c0 c1 c2 c3 c4 c5 d0 d1 d2 d3 d4 d5
      refine wpAnyH_ready (rs := [0]) (by kernel_rfl) (by simp) ?_
      refine AllReadyH.cons (o := ({ dst := some 18, op := Op.load 27 (Operand.tmp 3), type := 27, pos := "law.go:32", after := #[], guard := none } : Oper)) rfl (fun K hK => ?_) AllReadyH.nil
      · have c0 := P0.c0
        have c1 := P0.c1
        have c2 := P0.c2
        have c3 := P0.c3
        have c4 := P0.c4
        have c5 := P0.c5
        have d0 := Q0.c0
        have d1 := Q0.c1
        have d2 := Q0.c2
        have d3 := Q0.c3
        have d4 := Q0.c4
        have d5 := Q0.c5
        go_simp
        refine hK.out _ _ hH0 (fun _ => ?_)
        clear hK K c0 c1 c2 c3 c4 c5 d0 d1 d2 d3 d4 d5
        refine wpAnyH_ready (rs := [1]) (by kernel_rfl) (by simp) ?_
        refine AllReadyH.cons (o := ({ dst := some 19, op := Op.call { callee := Callee.value (Operand.func 9), args := #[Operand.tmp 18], argTypes := #[27] }, type := 27, pos := "law.go:32", after := #[{ on := 0, ground := Ground.data }], guard := none } : Oper)) rfl (fun K hK => ?_) AllReadyH.nil
        · go_simp
          go_at_call 9
          refine (cA _).mono ?_
          rintro e w1 ⟨rfl, hb⟩
          have P1 := P0.keep hb
          have Q1 := Q0.keep hb
          have FP1 := FP0.keep P0.lt hb
          have FQ1 := FQ0.keep Q0.lt hb
          refine hK.out _ _ (HCL.out _ _ hH0 hb) (fun hH1 => ?_)
          clear hK K hb P0 Q0 FP0 FQ0 hH0
          refine wpAnyH_ready (rs := [3]) (by kernel_rfl) (by simp) ?_
          refine AllReadyH.cons (o := ({ dst := some 21, op := Op.call { callee := Callee.value (Operand.func 9), args := #[Operand.tmp 20], argTypes := #[27] }, type := 27, pos := "law.go:32", after := #[{ on := 2, ground := Ground.data }, { on := 1, ground := Ground.chain }], guard := none } : Oper)) rfl (fun K hK => ?_) AllReadyH.nil
          · go_simp
            go_at_call 9
            refine (cB _).mono ?_
            rintro e w2 ⟨rfl, hb⟩
            have P2 := P1.keep hb
            have Q2 := Q1.keep hb
            have FP2 := FP1.keep P1.lt hb
            have FQ2 := FQ1.keep Q1.lt hb
            refine hK.out _ _ (HCL.out _ _ hH1 hb) (fun hH2 => ?_)
            clear hK K hb P1 Q1 FP1 FQ1 hH1
            refine wpAnyH_ready (rs := [4]) (by kernel_rfl) (by simp) ?_
            refine AllReadyH.cons (o := ({ dst := none, op := Op.store 27 (Operand.tmp 3) (Operand.tmp 19), type := 0, pos := "law.go:32", after := #[{ on := 1, ground := Ground.data }, { on := 3, ground := Ground.chain }, { on := 0, ground := Ground.phase }, { on := 1, ground := Ground.phase }, { on := 2, ground := Ground.textOnly Departure.lateStores }, { on := 3, ground := Ground.textOnly Departure.lateStoresUnsure }], guard := none } : Oper)) rfl (fun K hK => ?_) AllReadyH.nil
            · have c0 := P2.c0
              have c1 := P2.c1
              have c2 := P2.c2
              have c3 := P2.c3
              have c4 := P2.c4
              have c5 := P2.c5
              have f0 := FP2.f0
              have f1 := FP2.f1
              have f2 := FP2.f2
              have f3 := FP2.f3
              have f4 := FP2.f4
              have f5 := FP2.f5
              go_simp
              have P3 := P2.wrote (up X.s) X.k X.n X.lo X.hi (up X.p)
              have Q3 := Q2.put (q := N) (by omega) (.int .i64 (up X.s)) (.bool X.k) (.int .i64 X.n) (.int .i64 X.lo) (.int .i64 X.hi) (.int .i64 (up X.p))
              have FP3 := FP2.put (q := N) (.int .i64 (up X.s)) (.bool X.k) (.int .i64 X.n) (.int .i64 X.lo) (.int .i64 X.hi) (.int .i64 (up X.p))
              have FQ3 := FQ2.put (q := N) (.int .i64 (up X.s)) (.bool X.k) (.int .i64 X.n) (.int .i64 X.lo) (.int .i64 X.hi) (.int .i64 (up X.p))
              refine hK.out _ _ (HPUT.out _ N _ _ _ _ _ _ (by omega) hH2) (fun hH3 => ?_)
              clear hK K c0 c1 c2 c3 c4 c5 f0 f1 f2 f3 f4 f5
              obtain ⟨w3, hw3⟩ : ∃ x, x = ((((((w2.setCell ⟨N, 0, none⟩ (.int .i64 (up X.s))).setCell ⟨N, 1, none⟩ (.bool X.k)).setCell ⟨N, 2, none⟩ (.int .i64 X.n)).setCell ⟨N, 3, none⟩ (.int .i64 X.lo)).setCell ⟨N, 4, none⟩ (.int .i64 X.hi)).setCell ⟨N, 5, none⟩ (.int .i64 (up X.p))) := ⟨_, rfl⟩
              unfold st6 at hH3 P3 Q3 FP3 FQ3
              rw [← hw3] at hH3 P3 Q3 FP3 FQ3 ⊢
              clear hw3 P2 Q2 FP2 FQ2 hH2
              refine wpAnyH_ready (rs := [5]) (by kernel_rfl) (by simp) ?_
              refine AllReadyH.cons (o := ({ dst := none, op := Op.store 27 (Operand.tmp 4) (Operand.tmp 21), type := 0, pos := "law.go:32", after := #[{ on := 3, ground := Ground.data }, { on := 4, ground := Ground.chain }, { on := 0, ground := Ground.phase }, { on := 1, ground := Ground.phase }, { on := 2, ground := Ground.phase }, { on := 3, ground := Ground.phase }, { on := 4, ground := Ground.phase }], guard := none } : Oper)) rfl (fun K hK => ?_) AllReadyH.nil
              · have c0 := Q3.c0
                have c1 := Q3.c1
                have c2 := Q3.c2
                have c3 := Q3.c3
                have c4 := Q3.c4
                have c5 := Q3.c5
                have f0 := FQ3.f0
                have f1 := FQ3.f1
                have f2 := FQ3.f2
                have f3 := FQ3.f3
                have f4 := FQ3.f4
                have f5 := FQ3.f5
                go_simp
                have Q4 := Q3.wrote (up Y.s) Y.k Y.n Y.lo Y.hi (up Y.p)
                have P4 := P3.put (q := (N + 1)) (by omega) (.int .i64 (up Y.s)) (.bool Y.k) (.int .i64 Y.n) (.int .i64 Y.lo) (.int .i64 Y.hi) (.int .i64 (up Y.p))
                have FP4 := FP3.put (q := (N + 1)) (.int .i64 (up Y.s)) (.bool Y.k) (.int .i64 Y.n) (.int .i64 Y.lo) (.int .i64 Y.hi) (.int .i64 (up Y.p))
                have FQ4 := FQ3.put (q := (N + 1)) (.int .i64 (up Y.s)) (.bool Y.k) (.int .i64 Y.n) (.int .i64 Y.lo) (.int .i64 Y.hi) (.int .i64 (up Y.p))
                refine hK.out _ _ (HPUT.out _ (N + 1) _ _ _ _ _ _ (by omega) hH3) (fun hH4 => ?_)
                clear hK K c0 c1 c2 c3 c4 c5 f0 f1 f2 f3 f4 f5
                obtain ⟨w4, hw4⟩ : ∃ x, x = ((((((w3.setCell ⟨N + 1, 0, none⟩ (.int .i64 (up Y.s))).setCell ⟨N + 1, 1, none⟩ (.bool Y.k)).setCell ⟨N + 1, 2, none⟩ (.int .i64 Y.n)).setCell ⟨N + 1, 3, none⟩ (.int .i64 Y.lo)).setCell ⟨N + 1, 4, none⟩ (.int .i64 Y.hi)).setCell ⟨N + 1, 5, none⟩ (.int .i64 (up Y.p))) := ⟨_, rfl⟩
                unfold st6 at hH4 P4 Q4 FP4 FQ4
                rw [← hw4] at hH4 P4 Q4 FP4 FQ4 ⊢
                clear hw4 P3 Q3 FP3 FQ3 hH3
                refine wpAnyH_done (by kernel_rfl) ?_ _
                go_wp2
                go_meet
                case rel => exact ⟨rfl, P4, Q4, hH4.2.out⟩
  case rest =>
    obtain ⟨rfl, HH⟩ := hcut
    clear R HCL HPUT cA cB
    have HCL : Hid (∀ a b : World, (a.cell? ⟨N, 0, none⟩ = some (.int .i64 (up X.s)) ∧ a.cell? ⟨N, 1, none⟩ = some (.bool X.k) ∧ a.cell? ⟨N, 2, none⟩ = some (.int .i64 X.n) ∧ a.cell? ⟨N, 3, none⟩ = some (.int .i64 X.lo) ∧ a.cell? ⟨N, 4, none⟩ = some (.int .i64 X.hi) ∧ a.cell? ⟨N, 5, none⟩ = some (.int .i64 (up X.p)) ∧ a.cell? ⟨N + 1, 0, none⟩ = some (.int .i64 (up Y.s)) ∧ a.cell? ⟨N + 1, 1, none⟩ = some (.bool Y.k) ∧ a.cell? ⟨N + 1, 2, none⟩ = some (.int .i64 Y.n) ∧ a.cell? ⟨N + 1, 3, none⟩ = some (.int .i64 Y.lo) ∧ a.cell? ⟨N + 1, 4, none⟩ = some (.int .i64 Y.hi) ∧ a.cell? ⟨N + 1, 5, none⟩ = some (.int .i64 (up Y.p)) ∧ Hid (Br a N (up X.s) X.k X.n X.lo X.hi (up X.p) ∧ Br a (N + 1) (up Y.s) Y.k Y.n Y.lo Y.hi (up Y.p) ∧ Below N w a)) → Below a.heap.size a b → (b.cell? ⟨N, 0, none⟩ = some (.int .i64 (up X.s)) ∧ b.cell? ⟨N, 1, none⟩ = some (.bool X.k) ∧ b.cell? ⟨N, 2, none⟩ = some (.int .i64 X.n) ∧ b.cell? ⟨N, 3, none⟩ = some (.int .i64 X.lo) ∧ b.cell? ⟨N, 4, none⟩ = some (.int .i64 X.hi) ∧ b.cell? ⟨N, 5, none⟩ = some (.int .i64 (up X.p)) ∧ b.cell? ⟨N + 1, 0, none⟩ = some (.int .i64 (up Y.s)) ∧ b.cell? ⟨N + 1, 1, none⟩ = some (.bool Y.k) ∧ b.cell? ⟨N + 1, 2, none⟩ = some (.int .i64 Y.n) ∧ b.cell? ⟨N + 1, 3, none⟩ = some (.int .i64 Y.lo) ∧ b.cell? ⟨N + 1, 4, none⟩ = some (.int .i64 Y.hi) ∧ b.cell? ⟨N + 1, 5, none⟩ = some (.int .i64 (up Y.p)) ∧ Hid (Br b N (up X.s) X.k X.n X.lo X.hi (up X.p) ∧ Br b (N + 1) (up Y.s) Y.k Y.n Y.lo Y.hi (up Y.p) ∧ Below N w b))) := fun a b h hb => by
      have y9 := (h.2.2.2.2.2.2.2.2.2.2.2.2).out
      have z9 : Br b N (up X.s) X.k X.n X.lo X.hi (up X.p) ∧ Br b (N + 1) (up Y.s) Y.k Y.n Y.lo Y.hi (up Y.p) ∧ Below N w b := ⟨y9.1.keep hb, y9.2.1.keep hb, y9.2.2.trans (hb.mono (Nat.le_of_lt y9.1.lt))⟩
      exact ⟨z9.1.c0, z9.1.c1, z9.1.c2, z9.1.c3, z9.1.c4, z9.1.c5, z9.2.1.c0, z9.2.1.c1, z9.2.1.c2, z9.2.1.c3, z9.2.1.c4, z9.2.1.c5, z9⟩
    have HPUT : Hid (∀ (a : World) (q : Nat) (t1 t2 t3 t4 t5 t6 : Value), (N + 1 < q) → (a.cell? ⟨N, 0, none⟩ = some (.int .i64 (up X.s)) ∧ a.cell? ⟨N, 1, none⟩ = some (.bool X.k) ∧ a.cell? ⟨N, 2, none⟩ = some (.int .i64 X.n) ∧ a.cell? ⟨N, 3, none⟩ = some (.int .i64 X.lo) ∧ a.cell? ⟨N, 4, none⟩ = some (.int .i64 X.hi) ∧ a.cell? ⟨N, 5, none⟩ = some (.int .i64 (up X.p)) ∧ a.cell? ⟨N + 1, 0, none⟩ = some (.int .i64 (up Y.s)) ∧ a.cell? ⟨N + 1, 1, none⟩ = some (.bool Y.k) ∧ a.cell? ⟨N + 1, 2, none⟩ = some (.int .i64 Y.n) ∧ a.cell? ⟨N + 1, 3, none⟩ = some (.int .i64 Y.lo) ∧ a.cell? ⟨N + 1, 4, none⟩ = some (.int .i64 Y.hi) ∧ a.cell? ⟨N + 1, 5, none⟩ = some (.int .i64 (up Y.p)) ∧ Hid (Br a N (up X.s) X.k X.n X.lo X.hi (up X.p) ∧ Br a (N + 1) (up Y.s) Y.k Y.n Y.lo Y.hi (up Y.p) ∧ Below N w a)) → ((st6 a q t1 t2 t3 t4 t5 t6).cell? ⟨N, 0, none⟩ = some (.int .i64 (up X.s)) ∧ (st6 a q t1 t2 t3 t4 t5 t6).cell? ⟨N, 1, none⟩ = some (.bool X.k) ∧ (st6 a q t1 t2 t3 t4 t5 t6).cell? ⟨N, 2, none⟩ = some (.int .i64 X.n) ∧ (st6 a q t1 t2 t3 t4 t5 t6).cell? ⟨N, 3, none⟩ = some (.int .i64 X.lo) ∧ (st6 a q t1 t2 t3 t4 t5 t6).cell? ⟨N, 4, none⟩ = some (.int .i64 X.hi) ∧ (st6 a q t1 t2 t3 t4 t5 t6).cell? ⟨N, 5, none⟩ = some (.int .i64 (up X.p)) ∧ (st6 a q t1 t2 t3 t4 t5 t6).cell? ⟨N + 1, 0, none⟩ = some (.int .i64 (up Y.s)) ∧ (st6 a q t1 t2 t3 t4 t5 t6).cell? ⟨N + 1, 1, none⟩ = some (.bool Y.k) ∧ (st6 a q t1 t2 t3 t4 t5 t6).cell? ⟨N + 1, 2, none⟩ = some (.int .i64 Y.n) ∧ (st6 a q t1 t2 t3 t4 t5 t6).cell? ⟨N + 1, 3, none⟩ = some (.int .i64 Y.lo) ∧ (st6 a q t1 t2 t3 t4 t5 t6).cell? ⟨N + 1, 4, none⟩ = some (.int .i64 Y.hi) ∧ (st6 a q t1 t2 t3 t4 t5 t6).cell? ⟨N + 1, 5, none⟩ = some (.int .i64 (up Y.p)) ∧ Hid (Br (st6 a q t1 t2 t3 t4 t5 t6) N (up X.s) X.k X.n X.lo X.hi (up X.p) ∧ Br (st6 a q t1 t2 t3 t4 t5 t6) (N + 1) (up Y.s) Y.k Y.n Y.lo Y.hi (up Y.p) ∧ Below N w (st6 a q t1 t2 t3 t4 t5 t6)))) := fun a q t1 t2 t3 t4 t5 t6 hq h => by
      have y9 := (h.2.2.2.2.2.2.2.2.2.2.2.2).out
      have z9 : Br (st6 a q t1 t2 t3 t4 t5 t6) N (up X.s) X.k X.n X.lo X.hi (up X.p) ∧ Br (st6 a q t1 t2 t3 t4 t5 t6) (N + 1) (up Y.s) Y.k Y.n Y.lo Y.hi (up Y.p) ∧ Below N w (st6 a q t1 t2 t3 t4 t5 t6) := ⟨y9.1.put (by omega) _ _ _ _ _ _, y9.2.1.put (by omega) _ _ _ _ _ _, st6_below y9.2.2 _ (by omega) _ _ _ _ _ _⟩
      exact ⟨z9.1.c0, z9.1.c1, z9.1.c2, z9.1.c3, z9.1.c4, z9.1.c5, z9.2.1.c0, z9.2.1.c1, z9.2.1.c2, z9.2.1.c3, z9.2.1.c4, z9.2.1.c5, z9⟩
    have hS0 : wc.cell? ⟨N, 0, none⟩ = some (.int .i64 (up X.s)) ∧ wc.cell? ⟨N, 1, none⟩ = some (.bool X.k) ∧ wc.cell? ⟨N, 2, none⟩ = some (.int .i64 X.n) ∧ wc.cell? ⟨N, 3, none⟩ = some (.int .i64 X.lo) ∧ wc.cell? ⟨N, 4, none⟩ = some (.int .i64 X.hi) ∧ wc.cell? ⟨N, 5, none⟩ = some (.int .i64 (up X.p)) ∧ wc.cell? ⟨N + 1, 0, none⟩ = some (.int .i64 (up Y.s)) ∧ wc.cell? ⟨N + 1, 1, none⟩ = some (.bool Y.k) ∧ wc.cell? ⟨N + 1, 2, none⟩ = some (.int .i64 Y.n) ∧ wc.cell? ⟨N + 1, 3, none⟩ = some (.int .i64 Y.lo) ∧ wc.cell? ⟨N + 1, 4, none⟩ = some (.int .i64 Y.hi) ∧ wc.cell? ⟨N + 1, 5, none⟩ = some (.int .i64 (up Y.p)) ∧ Hid (Br wc N (up X.s) X.k X.n X.lo X.hi (up X.p) ∧ Br wc (N + 1) (up Y.s) Y.k Y.n Y.lo Y.hi (up Y.p) ∧ Below N w wc) := ⟨HH.out.1.c0, HH.out.1.c1, HH.out.1.c2, HH.out.1.c3, HH.out.1.c4, HH.out.1.c5, HH.out.2.1.c0, HH.out.2.1.c1, HH.out.2.1.c2, HH.out.2.1.c3, HH.out.2.1.c4, HH.out.2.1.c5, HH.out⟩
    clear HH
    go_upto_region 3 with fail
    go_cut [8, 9] (fun v8 v9 wy => ∃ k8, v8 = .pointer (some ⟨k8, 0, none⟩) ∧ v9 = .bool ok ∧ Hid (Br wy N (up X.s) X.k X.n X.lo X.hi (up X.p) ∧ Br wy (N + 1) (up Y.s) Y.k Y.n Y.lo Y.hi (up Y.p) ∧ Br wy k8 (up m.s) m.k m.n m.lo m.hi (up m.p) ∧ Below N w wy))
    case first =>
      refine wp_region_held_drew (S := fun w' => w'.cell? ⟨N, 0, none⟩ = some (.int .i64 (up X.s)) ∧ w'.cell? ⟨N, 1, none⟩ = some (.bool X.k) ∧ w'.cell? ⟨N, 2, none⟩ = some (.int .i64 X.n) ∧ w'.cell? ⟨N, 3, none⟩ = some (.int .i64 X.lo) ∧ w'.cell? ⟨N, 4, none⟩ = some (.int .i64 X.hi) ∧ w'.cell? ⟨N, 5, none⟩ = some (.int .i64 (up X.p)) ∧ w'.cell? ⟨N + 1, 0, none⟩ = some (.int .i64 (up Y.s)) ∧ w'.cell? ⟨N + 1, 1, none⟩ = some (.bool Y.k) ∧ w'.cell? ⟨N + 1, 2, none⟩ = some (.int .i64 Y.n) ∧ w'.cell? ⟨N + 1, 3, none⟩ = some (.int .i64 Y.lo) ∧ w'.cell? ⟨N + 1, 4, none⟩ = some (.int .i64 Y.hi) ∧ w'.cell? ⟨N + 1, 5, none⟩ = some (.int .i64 (up Y.p)) ∧ Hid (Br w' N (up X.s) X.k X.n X.lo X.hi (up X.p) ∧ Br w' (N + 1) (up Y.s) Y.k Y.n Y.lo Y.hi (up Y.p) ∧ Below N w w')) (by kernel_rfl) (HCL.out _ _ hS0 ((Below.refl _ _).drew)) (fun hH0 => ?_)
      obtain ⟨w0, hw0⟩ : ∃ w0, w0 = wc.drew := ⟨_, rfl⟩
      rw [← hw0] at hH0 ⊢
      clear hw0
      refine wpAnyH_take (i := 0) (oi := ({ dst := some 23, op := Op.load 27 (Operand.tmp 3), type := 27, pos := "law.go:33", after := #[], guard := none } : Oper)) (v := ?_) rfl (by kernel_rfl) (by kernel_rfl) (by kernel_rfl) (fun _ _ _ h => h) (Or.inl ⟨by rfl, ?_⟩) (by assumption) ?_
      rotate_left
      · (intro wz hSw; (try dsimp only at hSw); go_simp; try with_reducible rfl)
      simp only [Act.put, List.setIfInBounds_toArray, List.set_cons_zero, List.set_cons_succ]
      refine wpAnyH_take (i := 2) (oi := ({ dst := some 25, op := Op.load 27 (Operand.tmp 4), type := 27, pos := "law.go:33", after := #[], guard := none } : Oper)) (v := ?_) rfl (by kernel_rfl) (by kernel_rfl) (by kernel_rfl) (fun _ _ _ h => h) (Or.inl ⟨by rfl, ?_⟩) (by assumption) ?_
      rotate_left
      · (intro wz hSw; (try dsimp only at hSw); go_simp; try with_reducible rfl)
      simp only [Act.put, List.setIfInBounds_toArray, List.set_cons_zero, List.set_cons_succ]
      refine wpAnyH_ready (rs := [1, 8]) (by kernel_rfl) (by simp) ?_
      refine AllReadyH.cons (o := ({ dst := some 24, op := Op.call { callee := Callee.value (Operand.func 7), args := #[Operand.tmp 23], argTypes := #[27] }, type := 32, pos := "law.go:33", after := #[{ on := 0, ground := Ground.data }], guard := none } : Oper)) rfl (fun K hK => ?_) (AllReadyH.cons (o := ({ dst := some 8, op := Op.alloc 32, type := 0, pos := "law.go:33", after := #[], guard := none } : Oper)) rfl (fun K hK => ?_) AllReadyH.nil)
      · go_simp
        go_at_call 7
        refine (to_V _ _ _ _ _ _ _).mono ?_
        rintro e w1 ⟨rfl, hb1⟩
        refine hK.out _ _ (HCL.out _ _ hH0 hb1) (fun hH1 => ?_)
        clear hK K
        refine wpAnyH_ready (rs := [3, 8]) (by kernel_rfl) (by simp) ?_
        refine AllReadyH.cons (o := ({ dst := some 26, op := Op.call { callee := Callee.value (Operand.func 7), args := #[Operand.tmp 25], argTypes := #[27] }, type := 32, pos := "law.go:33", after := #[{ on := 2, ground := Ground.data }, { on := 1, ground := Ground.chain }], guard := none } : Oper)) rfl (fun K hK => ?_) (AllReadyH.cons (o := ({ dst := some 8, op := Op.alloc 32, type := 0, pos := "law.go:33", after := #[], guard := none } : Oper)) rfl (fun K hK => ?_) AllReadyH.nil)
        · go_simp
          go_at_call 7
          refine (to_V _ _ _ _ _ _ _).mono ?_
          rintro e w2 ⟨rfl, hb2⟩
          refine hK.out _ _ (HCL.out _ _ hH1 hb2) (fun hH2 => ?_)
          clear hK K
          refine wpAnyH_ready (rs := [4, 8]) (by kernel_rfl) (by simp) ?_
          refine AllReadyH.cons (o := ({ dst := some 27, op := Op.call { callee := Callee.value (Operand.func 10), args := #[Operand.tmp 24, Operand.tmp 26], argTypes := #[32, 32] }, type := 36, pos := "law.go:33", after := #[{ on := 1, ground := Ground.data }, { on := 3, ground := Ground.data }, { on := 3, ground := Ground.chain }], guard := none } : Oper)) rfl (fun K hK => ?_) (AllReadyH.cons (o := ({ dst := some 8, op := Op.alloc 32, type := 0, pos := "law.go:33", after := #[], guard := none } : Oper)) rfl (fun K hK => ?_) AllReadyH.nil)
          · go_simp
            go_at_call 10
            refine (m1 _).mono ?_
            rintro e w3 ⟨rfl, hb3⟩
            refine hK.out _ _ (HCL.out _ _ hH2 hb3) (fun hH3 => ?_)
            clear hK K
            refine wpAnyH_take (i := 5) (oi := ({ dst := some 22, op := Op.move (Operand.tmp 27), type := 36, pos := "law.go:33", after := #[{ on := 4, ground := Ground.data }], guard := none } : Oper)) (v := ?_) rfl (by kernel_rfl) (by kernel_rfl) (by kernel_rfl) (fun _ _ _ h => h) (Or.inl ⟨by rfl, ?_⟩) (by assumption) ?_
            rotate_left
            · (intro wz hSw; (try dsimp only at hSw); go_simp; try with_reducible rfl)
            simp only [Act.put, List.setIfInBounds_toArray, List.set_cons_zero, List.set_cons_succ]
            refine wpAnyH_take (i := 6) (oi := ({ dst := some 28, op := Op.extract (Operand.tmp 22) 0, type := 32, pos := "law.go:33", after := #[{ on := 5, ground := Ground.data }], guard := none } : Oper)) (v := ?_) rfl (by kernel_rfl) (by kernel_rfl) (by kernel_rfl) (fun _ _ _ h => h) (Or.inl ⟨by rfl, ?_⟩) (by assumption) ?_
            rotate_left
            · (intro wz hSw; (try dsimp only at hSw); go_simp; try with_reducible rfl)
            simp only [Act.put, List.setIfInBounds_toArray, List.set_cons_zero, List.set_cons_succ]
            refine wpAnyH_take (i := 7) (oi := ({ dst := some 29, op := Op.extract (Operand.tmp 22) 1, type := 4, pos := "law.go:33", after := #[{ on := 5, ground := Ground.data }, { on := 9, ground := Ground.gcOnly Departure.lateStores }], guard := none } : Oper)) (v := ?_) rfl (by kernel_rfl) (by kernel_rfl) (by kernel_rfl) (fun _ _ _ h => h) (Or.inl ⟨by rfl, ?_⟩) (by assumption) ?_
            rotate_left
            · (intro wz hSw; (try dsimp only at hSw); go_simp; try with_reducible rfl)
            simp only [Act.put, List.setIfInBounds_toArray, List.set_cons_zero, List.set_cons_succ]
            refine wpAnyH_ready (rs := [8]) (by kernel_rfl) (by simp) ?_
            refine AllReadyH.cons (o := ({ dst := some 8, op := Op.alloc 32, type := 0, pos := "law.go:33", after := #[], guard := none } : Oper)) rfl (fun K hK => ?_) AllReadyH.nil
            · go_simp
              have hb4 : Below w3.heap.size w3 (w3.alloc (.cells #[.int .i64 0, .bool false, .int .i64 0, .int .i64 0, .int .i64 0, .int .i64 0] 32)) := (Below.refl _ _).alloc (Nat.le_refl _) _
              have M4 := Br.new w3 0 false 0 0 0 0 32
              have G4 := Fz.new w3 0 false 0 0 0 0 32
              have neM : N + 1 < w3.heap.size := (hH3.2.2.2.2.2.2.2.2.2.2.2.2).out.2.1.lt
              refine hK.out _ _ (HCL.out _ _ hH3 hb4) (fun hH4 => ?_)
              clear hK K
              obtain ⟨w4, hw4⟩ : ∃ w4, w4 = (w3.alloc (.cells #[.int .i64 0, .bool false, .int .i64 0, .int .i64 0, .int .i64 0, .int .i64 0] 32)) := ⟨_, rfl⟩
              rw [← hw4] at hH4 M4 G4 ⊢
              clear hw4 hb4
              generalize w3.heap.size = kM at *
              refine wpAnyH_ready (rs := [9]) (by kernel_rfl) (by simp) ?_
              refine AllReadyH.cons (o := ({ dst := none, op := Op.store 32 (Operand.tmp 8) (Operand.tmp 28), type := 0, pos := "law.go:33", after := #[{ on := 8, ground := Ground.data }, { on := 6, ground := Ground.data }, { on := 4, ground := Ground.chain }, { on := 0, ground := Ground.phase }, { on := 1, ground := Ground.phase }, { on := 2, ground := Ground.phase }, { on := 3, ground := Ground.phase }, { on := 4, ground := Ground.phase }, { on := 5, ground := Ground.phase }, { on := 6, ground := Ground.phase }, { on := 7, ground := Ground.textOnly Departure.lateStores }, { on := 8, ground := Ground.phase }], guard := none } : Oper)) rfl (fun K hK => ?_) AllReadyH.nil
              · have c0 := M4.c0
                have c1 := M4.c1
                have c2 := M4.c2
                have c3 := M4.c3
                have c4 := M4.c4
                have c5 := M4.c5
                have f0 := G4.f0
                have f1 := G4.f1
                have f2 := G4.f2
                have f3 := G4.f3
                have f4 := G4.f4
                have f5 := G4.f5
                go_simp
                have M5 := M4.wrote (up m.s) m.k m.n m.lo m.hi (up m.p)
                refine hK.out _ _ (HPUT.out _ kM _ _ _ _ _ _ neM hH4) (fun hH5 => ?_)
                clear hK K c0 c1 c2 c3 c4 c5 f0 f1 f2 f3 f4 f5
                refine wpAnyH_take (i := 10) (oi := ({ dst := some 9, op := Op.assign (Operand.tmp 29), type := 4, pos := "law.go:33", after := #[{ on := 7, ground := Ground.data }, { on := 9, ground := Ground.chain }, { on := 0, ground := Ground.phase }, { on := 1, ground := Ground.phase }, { on := 2, ground := Ground.phase }, { on := 3, ground := Ground.phase }, { on := 4, ground := Ground.phase }, { on := 5, ground := Ground.phase }, { on := 6, ground := Ground.phase }, { on := 7, ground := Ground.phase }, { on := 8, ground := Ground.phase }, { on := 9, ground := Ground.phase }], guard := none } : Oper)) (v := ?_) rfl (by kernel_rfl) (by kernel_rfl) (by kernel_rfl) (fun _ _ _ h => h) (Or.inl ⟨by rfl, ?_⟩) (by assumption) ?_
                rotate_left
                · (intro wz hSw; (try dsimp only at hSw); go_simp; try with_reducible rfl)
                simp only [Act.put, List.setIfInBounds_toArray, List.set_cons_zero, List.set_cons_succ]
                refine wpAnyH_done (by kernel_rfl) ?_ _
                go_wp2
                go_meet
                case rel => exact ⟨_, rfl, rfl, (hH5.2.2.2.2.2.2.2.2.2.2.2.2).out.1, (hH5.2.2.2.2.2.2.2.2.2.2.2.2).out.2.1, M5, (hH5.2.2.2.2.2.2.2.2.2.2.2.2).out.2.2⟩
          · go_simp
            have hb3 : Below w2.heap.size w2 (w2.alloc (.cells #[.int .i64 0, .bool false, .int .i64 0, .int .i64 0, .int .i64 0, .int .i64 0] 32)) := (Below.refl _ _).alloc (Nat.le_refl _) _
            have M3 := Br.new w2 0 false 0 0 0 0 32
            have G3 := Fz.new w2 0 false 0 0 0 0 32
            have neM : N + 1 < w2.heap.size := (hH2.2.2.2.2.2.2.2.2.2.2.2.2).out.2.1.lt
            refine hK.out _ _ (HCL.out _ _ hH2 hb3) (fun hH3 => ?_)
            clear hK K
            obtain ⟨w3, hw3⟩ : ∃ w3, w3 = (w2.alloc (.cells #[.int .i64 0, .bool false, .int .i64 0, .int .i64 0, .int .i64 0, .int .i64 0] 32)) := ⟨_, rfl⟩
            rw [← hw3] at hH3 M3 G3 ⊢
            clear hw3 hb3
            generalize w2.heap.size = kM at *
            refine wpAnyH_ready (rs := [4]) (by kernel_rfl) (by simp) ?_
            refine AllReadyH.cons (o := ({ dst := some 27, op := Op.call { callee := Callee.value (Operand.func 10), args := #[Operand.tmp 24, Operand.tmp 26], argTypes := #[32, 32] }, type := 36, pos := "law.go:33", after := #[{ on := 1, ground := Ground.data }, { on := 3, ground := Ground.data }, { on := 3, ground := Ground.chain }], guard := none } : Oper)) rfl (fun K hK => ?_) AllReadyH.nil
            · go_simp
              go_at_call 10
              refine (m1 _).mono ?_
              rintro e w4 ⟨rfl, hb4⟩
              have M4 := M3.keep hb4
              have G4 := G3.keep M3.lt hb4
              refine hK.out _ _ (HCL.out _ _ hH3 hb4) (fun hH4 => ?_)
              clear hK K
              refine wpAnyH_take (i := 5) (oi := ({ dst := some 22, op := Op.move (Operand.tmp 27), type := 36, pos := "law.go:33", after := #[{ on := 4, ground := Ground.data }], guard := none } : Oper)) (v := ?_) rfl (by kernel_rfl) (by kernel_rfl) (by kernel_rfl) (fun _ _ _ h => h) (Or.inl ⟨by rfl, ?_⟩) (by assumption) ?_
              rotate_left
              · (intro wz hSw; (try dsimp only at hSw); go_simp; try with_reducible rfl)
              simp only [Act.put, List.setIfInBounds_toArray, List.set_cons_zero, List.set_cons_succ]
              refine wpAnyH_take (i := 6) (oi := ({ dst := some 28, op := Op.extract (Operand.tmp 22) 0, type := 32, pos := "law.go:33", after := #[{ on := 5, ground := Ground.data }], guard := none } : Oper)) (v := ?_) rfl (by kernel_rfl) (by kernel_rfl) (by kernel_rfl) (fun _ _ _ h => h) (Or.inl ⟨by rfl, ?_⟩) (by assumption) ?_
              rotate_left
              · (intro wz hSw; (try dsimp only at hSw); go_simp; try with_reducible rfl)
              simp only [Act.put, List.setIfInBounds_toArray, List.set_cons_zero, List.set_cons_succ]
              refine wpAnyH_take (i := 7) (oi := ({ dst := some 29, op := Op.extract (Operand.tmp 22) 1, type := 4, pos := "law.go:33", after := #[{ on := 5, ground := Ground.data }, { on := 9, ground := Ground.gcOnly Departure.lateStores }], guard := none } : Oper)) (v := ?_) rfl (by kernel_rfl) (by kernel_rfl) (by kernel_rfl) (fun _ _ _ h => h) (Or.inl ⟨by rfl, ?_⟩) (by assumption) ?_
              rotate_left
              · (intro wz hSw; (try dsimp only at hSw); go_simp; try with_reducible rfl)
              simp only [Act.put, List.setIfInBounds_toArray, List.set_cons_zero, List.set_cons_succ]
              refine wpAnyH_ready (rs := [9]) (by kernel_rfl) (by simp) ?_
              refine AllReadyH.cons (o := ({ dst := none, op := Op.store 32 (Operand.tmp 8) (Operand.tmp 28), type := 0, pos := "law.go:33", after := #[{ on := 8, ground := Ground.data }, { on := 6, ground := Ground.data }, { on := 4, ground := Ground.chain }, { on := 0, ground := Ground.phase }, { on := 1, ground := Ground.phase }, { on := 2, ground := Ground.phase }, { on := 3, ground := Ground.phase }, { on := 4, ground := Ground.phase }, { on := 5, ground := Ground.phase }, { on := 6, ground := Ground.phase }, { on := 7, ground := Ground.textOnly Departure.lateStores }, { on := 8, ground := Ground.phase }], guard := none } : Oper)) rfl (fun K hK => ?_) AllReadyH.nil
              · have c0 := M4.c0
                have c1 := M4.c1
                have c2 := M4.c2
                have c3 := M4.c3
                have c4 := M4.c4
                have c5 := M4.c5
                have f0 := G4.f0
                have f1 := G4.f1
                have f2 := G4.f2
                have f3 := G4.f3
                have f4 := G4.f4
                have f5 := G4.f5
                go_simp
                have M5 := M4.wrote (up m.s) m.k m.n m.lo m.hi (up m.p)
                refine hK.out _ _ (HPUT.out _ kM _ _ _ _ _ _ neM hH4) (fun hH5 => ?_)
                clear hK K c0 c1 c2 c3 c4 c5 f0 f1 f2 f3 f4 f5
                refine wpAnyH_take (i := 10) (oi := ({ dst := some 9, op := Op.assign (Operand.tmp 29), type := 4, pos := "law.go:33", after := #[{ on := 7, ground := Ground.data }, { on := 9, ground := Ground.chain }, { on := 0, ground := Ground.phase }, { on := 1, ground := Ground.phase }, { on := 2, ground := Ground.phase }, { on := 3, ground := Ground.phase }, { on := 4, ground := Ground.phase }, { on := 5, ground := Ground.phase }, { on := 6, ground := Ground.phase }, { on := 7, ground := Ground.phase }, { on := 8, ground := Ground.phase }, { on := 9, ground := Ground.phase }], guard := none } : Oper)) (v := ?_) rfl (by kernel_rfl) (by kernel_rfl) (by kernel_rfl) (fun _ _ _ h => h) (Or.inl ⟨by rfl, ?_⟩) (by assumption) ?_
                rotate_left
                · (intro wz hSw; (try dsimp only at hSw); go_simp; try with_reducible rfl)
                simp only [Act.put, List.setIfInBounds_toArray, List.set_cons_zero, List.set_cons_succ]
                refine wpAnyH_done (by kernel_rfl) ?_ _
                go_wp2
                go_meet
                case rel => exact ⟨_, rfl, rfl, (hH5.2.2.2.2.2.2.2.2.2.2.2.2).out.1, (hH5.2.2.2.2.2.2.2.2.2.2.2.2).out.2.1, M5, (hH5.2.2.2.2.2.2.2.2.2.2.2.2).out.2.2⟩
        · go_simp
          have hb2 : Below w1.heap.size w1 (w1.alloc (.cells #[.int .i64 0, .bool false, .int .i64 0, .int .i64 0, .int .i64 0, .int .i64 0] 32)) := (Below.refl _ _).alloc (Nat.le_refl _) _
          have M2 := Br.new w1 0 false 0 0 0 0 32
          have G2 := Fz.new w1 0 false 0 0 0 0 32
          have neM : N + 1 < w1.heap.size := (hH1.2.2.2.2.2.2.2.2.2.2.2.2).out.2.1.lt
          refine hK.out _ _ (HCL.out _ _ hH1 hb2) (fun hH2 => ?_)
          clear hK K
          obtain ⟨w2, hw2⟩ : ∃ w2, w2 = (w1.alloc (.cells #[.int .i64 0, .bool false, .int .i64 0, .int .i64 0, .int .i64 0, .int .i64 0] 32)) := ⟨_, rfl⟩
          rw [← hw2] at hH2 M2 G2 ⊢
          clear hw2 hb2
          generalize w1.heap.size = kM at *
          refine wpAnyH_ready (rs := [3]) (by kernel_rfl) (by simp) ?_
          refine AllReadyH.cons (o := ({ dst := some 26, op := Op.call { callee := Callee.value (Operand.func 7), args := #[Operand.tmp 25], argTypes := #[27] }, type := 32, pos := "law.go:33", after := #[{ on := 2, ground := Ground.data }, { on := 1, ground := Ground.chain }], guard := none } : Oper)) rfl (fun K hK => ?_) AllReadyH.nil
          · go_simp
            go_at_call 7
            refine (to_V _ _ _ _ _ _ _).mono ?_
            rintro e w3 ⟨rfl, hb3⟩
            have M3 := M2.keep hb3
            have G3 := G2.keep M2.lt hb3
            refine hK.out _ _ (HCL.out _ _ hH2 hb3) (fun hH3 => ?_)
            clear hK K
            refine wpAnyH_ready (rs := [4]) (by kernel_rfl) (by simp) ?_
            refine AllReadyH.cons (o := ({ dst := some 27, op := Op.call { callee := Callee.value (Operand.func 10), args := #[Operand.tmp 24, Operand.tmp 26], argTypes := #[32, 32] }, type := 36, pos := "law.go:33", after := #[{ on := 1, ground := Ground.data }, { on := 3, ground := Ground.data }, { on := 3, ground := Ground.chain }], guard := none } : Oper)) rfl (fun K hK => ?_) AllReadyH.nil
            · go_simp
              go_at_call 10
              refine (m1 _).mono ?_
              rintro e w4 ⟨rfl, hb4⟩
              have M4 := M3.keep hb4
              have G4 := G3.keep M3.lt hb4
              refine hK.out _ _ (HCL.out _ _ hH3 hb4) (fun hH4 => ?_)
              clear hK K
              refine wpAnyH_take (i := 5) (oi := ({ dst := some 22, op := Op.move (Operand.tmp 27), type := 36, pos := "law.go:33", after := #[{ on := 4, ground := Ground.data }], guard := none } : Oper)) (v := ?_) rfl (by kernel_rfl) (by kernel_rfl) (by kernel_rfl) (fun _ _ _ h => h) (Or.inl ⟨by rfl, ?_⟩) (by assumption) ?_
              rotate_left
              · (intro wz hSw; (try dsimp only at hSw); go_simp; try with_reducible rfl)
              simp only [Act.put, List.setIfInBounds_toArray, List.set_cons_zero, List.set_cons_succ]
              refine wpAnyH_take (i := 6) (oi := ({ dst := some 28, op := Op.extract (Operand.tmp 22) 0, type := 32, pos := "law.go:33", after := #[{ on := 5, ground := Ground.data }], guard := none } : Oper)) (v := ?_) rfl (by kernel_rfl) (by kernel_rfl) (by kernel_rfl) (fun _ _ _ h => h) (Or.inl ⟨by rfl, ?_⟩) (by assumption) ?_
              rotate_left
              · (intro wz hSw; (try dsimp only at hSw); go_simp; try with_reducible rfl)
              simp only [Act.put, List.setIfInBounds_toArray, List.set_cons_zero, List.set_cons_succ]
              refine wpAnyH_take (i := 7) (oi := ({ dst := some 29, op := Op.extract (Operand.tmp 22) 1, type := 4, pos := "law.go:33", after := #[{ on := 5, ground := Ground.data }, { on := 9, ground := Ground.gcOnly Departure.lateStores }], guard := none } : Oper)) (v := ?_) rfl (by kernel_rfl) (by kernel_rfl) (by kernel_rfl) (fun _ _ _ h => h) (Or.inl ⟨by rfl, ?_⟩) (by assumption) ?_
              rotate_left
              · (intro wz hSw; (try dsimp only at hSw); go_simp; try with_reducible rfl)
              simp only [Act.put, List.setIfInBounds_toArray, List.set_cons_zero, List.set_cons_succ]
              refine wpAnyH_ready (rs := [9]) (by kernel_rfl) (by simp) ?_
              refine AllReadyH.cons (o := ({ dst := none, op := Op.store 32 (Operand.tmp 8) (Operand.tmp 28), type := 0, pos := "law.go:33", after := #[{ on := 8, ground := Ground.data }, { on := 6, ground := Ground.data }, { on := 4, ground := Ground.chain }, { on := 0, ground := Ground.phase }, { on := 1, ground := Ground.phase }, { on := 2, ground := Ground.phase }, { on := 3, ground := Ground.phase }, { on := 4, ground := Ground.phase }, { on := 5, ground := Ground.phase }, { on := 6, ground := Ground.phase }, { on := 7, ground := Ground.textOnly Departure.lateStores }, { on := 8, ground := Ground.phase }], guard := none } : Oper)) rfl (fun K hK => ?_) AllReadyH.nil
              · have c0 := M4.c0
                have c1 := M4.c1
                have c2 := M4.c2
                have c3 := M4.c3
                have c4 := M4.c4
                have c5 := M4.c5
                have f0 := G4.f0
                have f1 := G4.f1
                have f2 := G4.f2
                have f3 := G4.f3
                have f4 := G4.f4
                have f5 := G4.f5
                go_simp
                have M5 := M4.wrote (up m.s) m.k m.n m.lo m.hi (up m.p)
                refine hK.out _ _ (HPUT.out _ kM _ _ _ _ _ _ neM hH4) (fun hH5 => ?_)
                clear hK K c0 c1 c2 c3 c4 c5 f0 f1 f2 f3 f4 f5
                refine wpAnyH_take (i := 10) (oi := ({ dst := some 9, op := Op.assign (Operand.tmp 29), type := 4, pos := "law.go:33", after := #[{ on := 7, ground := Ground.data }, { on := 9, ground := Ground.chain }, { on := 0, ground := Ground.phase }, { on := 1, ground := Ground.phase }, { on := 2, ground := Ground.phase }, { on := 3, ground := Ground.phase }, { on := 4, ground := Ground.phase }, { on := 5, ground := Ground.phase }, { on := 6, ground := Ground.phase }, { on := 7, ground := Ground.phase }, { on := 8, ground := Ground.phase }, { on := 9, ground := Ground.phase }], guard := none } : Oper)) (v := ?_) rfl (by kernel_rfl) (by kernel_rfl) (by kernel_rfl) (fun _ _ _ h => h) (Or.inl ⟨by rfl, ?_⟩) (by assumption) ?_
                rotate_left
                · (intro wz hSw; (try dsimp only at hSw); go_simp; try with_reducible rfl)
                simp only [Act.put, List.setIfInBounds_toArray, List.set_cons_zero, List.set_cons_succ]
                refine wpAnyH_done (by kernel_rfl) ?_ _
                go_wp2
                go_meet
                case rel => exact ⟨_, rfl, rfl, (hH5.2.2.2.2.2.2.2.2.2.2.2.2).out.1, (hH5.2.2.2.2.2.2.2.2.2.2.2.2).out.2.1, M5, (hH5.2.2.2.2.2.2.2.2.2.2.2.2).out.2.2⟩
      · go_simp
        have hb1 : Below w0.heap.size w0 (w0.alloc (.cells #[.int .i64 0, .bool false, .int .i64 0, .int .i64 0, .int .i64 0, .int .i64 0] 32)) := (Below.refl _ _).alloc (Nat.le_refl _) _
        have M1 := Br.new w0 0 false 0 0 0 0 32
        have G1 := Fz.new w0 0 false 0 0 0 0 32
        have neM : N + 1 < w0.heap.size := (hH0.2.2.2.2.2.2.2.2.2.2.2.2).out.2.1.lt
        refine hK.out _ _ (HCL.out _ _ hH0 hb1) (fun hH1 => ?_)
        clear hK K
        obtain ⟨w1, hw1⟩ : ∃ w1, w1 = (w0.alloc (.cells #[.int .i64 0, .bool false, .int .i64 0, .int .i64 0, .int .i64 0, .int .i64 0] 32)) := ⟨_, rfl⟩
        rw [← hw1] at hH1 M1 G1 ⊢
        clear hw1 hb1
        generalize w0.heap.size = kM at *
        refine wpAnyH_ready (rs := [1]) (by kernel_rfl) (by simp) ?_
        refine AllReadyH.cons (o := ({ dst := some 24, op := Op.call { callee := Callee.value (Operand.func 7), args := #[Operand.tmp 23], argTypes := #[27] }, type := 32, pos := "law.go:33", after := #[{ on := 0, ground := Ground.data }], guard := none } : Oper)) rfl (fun K hK => ?_) AllReadyH.nil
        · go_simp
          go_at_call 7
          refine (to_V _ _ _ _ _ _ _).mono ?_
          rintro e w2 ⟨rfl, hb2⟩
          have M2 := M1.keep hb2
          have G2 := G1.keep M1.lt hb2
          refine hK.out _ _ (HCL.out _ _ hH1 hb2) (fun hH2 => ?_)
          clear hK K
          refine wpAnyH_ready (rs := [3]) (by kernel_rfl) (by simp) ?_
          refine AllReadyH.cons (o := ({ dst := some 26, op := Op.call { callee := Callee.value (Operand.func 7), args := #[Operand.tmp 25], argTypes := #[27] }, type := 32, pos := "law.go:33", after := #[{ on := 2, ground := Ground.data }, { on := 1, ground := Ground.chain }], guard := none } : Oper)) rfl (fun K hK => ?_) AllReadyH.nil
          · go_simp
            go_at_call 7
            refine (to_V _ _ _ _ _ _ _).mono ?_
            rintro e w3 ⟨rfl, hb3⟩
            have M3 := M2.keep hb3
            have G3 := G2.keep M2.lt hb3
            refine hK.out _ _ (HCL.out _ _ hH2 hb3) (fun hH3 => ?_)
            clear hK K
            refine wpAnyH_ready (rs := [4]) (by kernel_rfl) (by simp) ?_
            refine AllReadyH.cons (o := ({ dst := some 27, op := Op.call { callee := Callee.value (Operand.func 10), args := #[Operand.tmp 24, Operand.tmp 26], argTypes := #[32, 32] }, type := 36, pos := "law.go:33", after := #[{ on := 1, ground := Ground.data }, { on := 3, ground := Ground.data }, { on := 3, ground := Ground.chain }], guard := none } : Oper)) rfl (fun K hK => ?_) AllReadyH.nil
            · go_simp
              go_at_call 10
              refine (m1 _).mono ?_
              rintro e w4 ⟨rfl, hb4⟩
              have M4 := M3.keep hb4
              have G4 := G3.keep M3.lt hb4
              refine hK.out _ _ (HCL.out _ _ hH3 hb4) (fun hH4 => ?_)
              clear hK K
              refine wpAnyH_take (i := 5) (oi := ({ dst := some 22, op := Op.move (Operand.tmp 27), type := 36, pos := "law.go:33", after := #[{ on := 4, ground := Ground.data }], guard := none } : Oper)) (v := ?_) rfl (by kernel_rfl) (by kernel_rfl) (by kernel_rfl) (fun _ _ _ h => h) (Or.inl ⟨by rfl, ?_⟩) (by assumption) ?_
              rotate_left
              · (intro wz hSw; (try dsimp only at hSw); go_simp; try with_reducible rfl)
              simp only [Act.put, List.setIfInBounds_toArray, List.set_cons_zero, List.set_cons_succ]
              refine wpAnyH_take (i := 6) (oi := ({ dst := some 28, op := Op.extract (Operand.tmp 22) 0, type := 32, pos := "law.go:33", after := #[{ on := 5, ground := Ground.data }], guard := none } : Oper)) (v := ?_) rfl (by kernel_rfl) (by kernel_rfl) (by kernel_rfl) (fun _ _ _ h => h) (Or.inl ⟨by rfl, ?_⟩) (by assumption) ?_
              rotate_left
              · (intro wz hSw; (try dsimp only at hSw); go_simp; try with_reducible rfl)
              simp only [Act.put, List.setIfInBounds_toArray, List.set_cons_zero, List.set_cons_succ]
              refine wpAnyH_take (i := 7) (oi := ({ dst := some 29, op := Op.extract (Operand.tmp 22) 1, type := 4, pos := "law.go:33", after := #[{ on := 5, ground := Ground.data }, { on := 9, ground := Ground.gcOnly Departure.lateStores }], guard := none } : Oper)) (v := ?_) rfl (by kernel_rfl) (by kernel_rfl) (by kernel_rfl) (fun _ _ _ h => h) (Or.inl ⟨by rfl, ?_⟩) (by assumption) ?_
              rotate_left
              · (intro wz hSw; (try dsimp only at hSw); go_simp; try with_reducible rfl)
              simp only [Act.put, List.setIfInBounds_toArray, List.set_cons_zero, List.set_cons_succ]
              refine wpAnyH_ready (rs := [9]) (by kernel_rfl) (by simp) ?_
              refine AllReadyH.cons (o := ({ dst := none, op := Op.store 32 (Operand.tmp 8) (Operand.tmp 28), type := 0, pos := "law.go:33", after := #[{ on := 8, ground := Ground.data }, { on := 6, ground := Ground.data }, { on := 4, ground := Ground.chain }, { on := 0, ground := Ground.phase }, { on := 1, ground := Ground.phase }, { on := 2, ground := Ground.phase }, { on := 3, ground := Ground.phase }, { on := 4, ground := Ground.phase }, { on := 5, ground := Ground.phase }, { on := 6, ground := Ground.phase }, { on := 7, ground := Ground.textOnly Departure.lateStores }, { on := 8, ground := Ground.phase }], guard := none } : Oper)) rfl (fun K hK => ?_) AllReadyH.nil
              · have c0 := M4.c0
                have c1 := M4.c1
                have c2 := M4.c2
                have c3 := M4.c3
                have c4 := M4.c4
                have c5 := M4.c5
                have f0 := G4.f0
                have f1 := G4.f1
                have f2 := G4.f2
                have f3 := G4.f3
                have f4 := G4.f4
                have f5 := G4.f5
                go_simp
                have M5 := M4.wrote (up m.s) m.k m.n m.lo m.hi (up m.p)
                refine hK.out _ _ (HPUT.out _ kM _ _ _ _ _ _ neM hH4) (fun hH5 => ?_)
                clear hK K c0 c1 c2 c3 c4 c5 f0 f1 f2 f3 f4 f5
                refine wpAnyH_take (i := 10) (oi := ({ dst := some 9, op := Op.assign (Operand.tmp 29), type := 4, pos := "law.go:33", after := #[{ on := 7, ground := Ground.data }, { on := 9, ground := Ground.chain }, { on := 0, ground := Ground.phase }, { on := 1, ground := Ground.phase }, { on := 2, ground := Ground.phase }, { on := 3, ground := Ground.phase }, { on := 4, ground := Ground.phase }, { on := 5, ground := Ground.phase }, { on := 6, ground := Ground.phase }, { on := 7, ground := Ground.phase }, { on := 8, ground := Ground.phase }, { on := 9, ground := Ground.phase }], guard := none } : Oper)) (v := ?_) rfl (by kernel_rfl) (by kernel_rfl) (by kernel_rfl) (fun _ _ _ h => h) (Or.inl ⟨by rfl, ?_⟩) (by assumption) ?_
                rotate_left
                · (intro wz hSw; (try dsimp only at hSw); go_simp; try with_reducible rfl)
                simp only [Act.put, List.setIfInBounds_toArray, List.set_cons_zero, List.set_cons_succ]
                refine wpAnyH_done (by kernel_rfl) ?_ _
                go_wp2
                go_meet
                case rel => exact ⟨_, rfl, rfl, (hH5.2.2.2.2.2.2.2.2.2.2.2.2).out.1, (hH5.2.2.2.2.2.2.2.2.2.2.2.2).out.2.1, M5, (hH5.2.2.2.2.2.2.2.2.2.2.2.2).out.2.2⟩
    case rest =>
      obtain ⟨k8, rfl, rfl, H3⟩ := hcut
      clear hS0 HCL HPUT m1
      have a0 := H3.out.1.c0
      have a1 := H3.out.1.c1
      have a2 := H3.out.1.c2
      have a3 := H3.out.1.c3
      have a4 := H3.out.1.c4
      have a5 := H3.out.1.c5
      have b0 := H3.out.2.1.c0
      have b1 := H3.out.2.1.c1
      have b2 := H3.out.2.1.c2
      have b3 := H3.out.2.1.c3
      have b4 := H3.out.2.1.c4
      have b5 := H3.out.2.1.c5
      go_upto_region 5 with (go_at_call 11; refine (m2 _).mono ?_; rintro e wK ⟨rfl, hK⟩)
      go_name_world W4 hW4
      have H4 : Hid (Br W4 N (up X.s) X.k X.n X.lo X.hi (up X.p) ∧ Br W4 (N + 1) (up Y.s) Y.k Y.n Y.lo Y.hi (up Y.p) ∧ Br W4 k8 (up m.s) m.k m.n m.lo m.hi (up m.p) ∧ Br W4 wK.heap.size (up m.s) m.k m.n m.lo m.hi (up m.p) ∧ Below N w W4) := by
        rw [← hW4]
        have u := H3.out.2.2.2.trans (hK.mono (Nat.le_of_lt H3.out.1.lt))
        have k0 := H3.out.1.keep hK
        exact ⟨k0.keep ((Below.refl _ _).alloc (Nat.le_refl _) _), (H3.out.2.1.keep hK).keep ((Below.refl _ _).alloc (Nat.le_refl _) _), (H3.out.2.2.1.keep hK).keep ((Below.refl _ _).alloc (Nat.le_refl _) _), Br.new _ _ _ _ _ _ _ _, u.alloc (Nat.le_of_lt k0.lt) _⟩
      clear hW4 hK H3 m2 a0 a1 a2 a3 a4 a5 b0 b1 b2 b3 b4 b5
      generalize wK.heap.size = k10 at *
      have HCL : Hid (∀ a b : World, (a.cell? ⟨k8, 0, none⟩ = some (.int .i64 (up m.s)) ∧ a.cell? ⟨k8, 1, none⟩ = some (.bool m.k) ∧ a.cell? ⟨k8, 2, none⟩ = some (.int .i64 m.n) ∧ a.cell? ⟨k8, 3, none⟩ = some (.int .i64 m.lo) ∧ a.cell? ⟨k8, 4, none⟩ = some (.int .i64 m.hi) ∧ a.cell? ⟨k8, 5, none⟩ = some (.int .i64 (up m.p)) ∧ a.cell? ⟨k10, 0, none⟩ = some (.int .i64 (up m.s)) ∧ a.cell? ⟨k10, 1, none⟩ = some (.bool m.k) ∧ a.cell? ⟨k10, 2, none⟩ = some (.int .i64 m.n) ∧ a.cell? ⟨k10, 3, none⟩ = some (.int .i64 m.lo) ∧ a.cell? ⟨k10, 4, none⟩ = some (.int .i64 m.hi) ∧ a.cell? ⟨k10, 5, none⟩ = some (.int .i64 (up m.p)) ∧ Hid (Br a N (up X.s) X.k X.n X.lo X.hi (up X.p) ∧ Br a (N + 1) (up Y.s) Y.k Y.n Y.lo Y.hi (up Y.p) ∧ Br a k8 (up m.s) m.k m.n m.lo m.hi (up m.p) ∧ Br a k10 (up m.s) m.k m.n m.lo m.hi (up m.p) ∧ Below N w a)) → Below a.heap.size a b → (b.cell? ⟨k8, 0, none⟩ = some (.int .i64 (up m.s)) ∧ b.cell? ⟨k8, 1, none⟩ = some (.bool m.k) ∧ b.cell? ⟨k8, 2, none⟩ = some (.int .i64 m.n) ∧ b.cell? ⟨k8, 3, none⟩ = some (.int .i64 m.lo) ∧ b.cell? ⟨k8, 4, none⟩ = some (.int .i64 m.hi) ∧ b.cell? ⟨k8, 5, none⟩ = some (.int .i64 (up m.p)) ∧ b.cell? ⟨k10, 0, none⟩ = some (.int .i64 (up m.s)) ∧ b.cell? ⟨k10, 1, none⟩ = some (.bool m.k) ∧ b.cell? ⟨k10, 2, none⟩ = some (.int .i64 m.n) ∧ b.cell? ⟨k10, 3, none⟩ = some (.int .i64 m.lo) ∧ b.cell? ⟨k10, 4, none⟩ = some (.int .i64 m.hi) ∧ b.cell? ⟨k10, 5, none⟩ = some (.int .i64 (up m.p)) ∧ Hid (Br b N (up X.s) X.k X.n X.lo X.hi (up X.p) ∧ Br b (N + 1) (up Y.s) Y.k Y.n Y.lo Y.hi (up Y.p) ∧ Br b k8 (up m.s) m.k m.n m.lo m.hi (up m.p) ∧ Br b k10 (up m.s) m.k m.n m.lo m.hi (up m.p) ∧ Below N w b))) := fun a b h hb => by
        have y9 := (h.2.2.2.2.2.2.2.2.2.2.2.2).out
        have z9 : Br b N (up X.s) X.k X.n X.lo X.hi (up X.p) ∧ Br b (N + 1) (up Y.s) Y.k Y.n Y.lo Y.hi (up Y.p) ∧ Br b k8 (up m.s) m.k m.n m.lo m.hi (up m.p) ∧ Br b k10 (up m.s) m.k m.n m.lo m.hi (up m.p) ∧ Below N w b := ⟨y9.1.keep hb, y9.2.1.keep hb, y9.2.2.1.keep hb, y9.2.2.2.1.keep hb, y9.2.2.2.2.trans (hb.mono (Nat.le_of_lt y9.1.lt))⟩
        exact ⟨z9.2.2.1.c0, z9.2.2.1.c1, z9.2.2.1.c2, z9.2.2.1.c3, z9.2.2.1.c4, z9.2.2.1.c5, z9.2.2.2.1.c0, z9.2.2.2.1.c1, z9.2.2.2.1.c2, z9.2.2.2.1.c3, z9.2.2.2.1.c4, z9.2.2.2.1.c5, z9⟩
      have hS0 : W4.cell? ⟨k8, 0, none⟩ = some (.int .i64 (up m.s)) ∧ W4.cell? ⟨k8, 1, none⟩ = some (.bool m.k) ∧ W4.cell? ⟨k8, 2, none⟩ = some (.int .i64 m.n) ∧ W4.cell? ⟨k8, 3, none⟩ = some (.int .i64 m.lo) ∧ W4.cell? ⟨k8, 4, none⟩ = some (.int .i64 m.hi) ∧ W4.cell? ⟨k8, 5, none⟩ = some (.int .i64 (up m.p)) ∧ W4.cell? ⟨k10, 0, none⟩ = some (.int .i64 (up m.s)) ∧ W4.cell? ⟨k10, 1, none⟩ = some (.bool m.k) ∧ W4.cell? ⟨k10, 2, none⟩ = some (.int .i64 m.n) ∧ W4.cell? ⟨k10, 3, none⟩ = some (.int .i64 m.lo) ∧ W4.cell? ⟨k10, 4, none⟩ = some (.int .i64 m.hi) ∧ W4.cell? ⟨k10, 5, none⟩ = some (.int .i64 (up m.p)) ∧ Hid (Br W4 N (up X.s) X.k X.n X.lo X.hi (up X.p) ∧ Br W4 (N + 1) (up Y.s) Y.k Y.n Y.lo Y.hi (up Y.p) ∧ Br W4 k8 (up m.s) m.k m.n m.lo m.hi (up m.p) ∧ Br W4 k10 (up m.s) m.k m.n m.lo m.hi (up m.p) ∧ Below N w W4) := ⟨H4.out.2.2.1.c0, H4.out.2.2.1.c1, H4.out.2.2.1.c2, H4.out.2.2.1.c3, H4.out.2.2.1.c4, H4.out.2.2.1.c5, H4.out.2.2.2.1.c0, H4.out.2.2.2.1.c1, H4.out.2.2.2.1.c2, H4.out.2.2.2.1.c3, H4.out.2.2.2.1.c4, H4.out.2.2.2.1.c5, H4.out⟩
      clear H4
      refine wp_region_held_drew (S := fun w' => w'.cell? ⟨k8, 0, none⟩ = some (.int .i64 (up m.s)) ∧ w'.cell? ⟨k8, 1, none⟩ = some (.bool m.k) ∧ w'.cell? ⟨k8, 2, none⟩ = some (.int .i64 m.n) ∧ w'.cell? ⟨k8, 3, none⟩ = some (.int .i64 m.lo) ∧ w'.cell? ⟨k8, 4, none⟩ = some (.int .i64 m.hi) ∧ w'.cell? ⟨k8, 5, none⟩ = some (.int .i64 (up m.p)) ∧ w'.cell? ⟨k10, 0, none⟩ = some (.int .i64 (up m.s)) ∧ w'.cell? ⟨k10, 1, none⟩ = some (.bool m.k) ∧ w'.cell? ⟨k10, 2, none⟩ = some (.int .i64 m.n) ∧ w'.cell? ⟨k10, 3, none⟩ = some (.int .i64 m.lo) ∧ w'.cell? ⟨k10, 4, none⟩ = some (.int .i64 m.hi) ∧ w'.cell? ⟨k10, 5, none⟩ = some (.int .i64 (up m.p)) ∧ Hid (Br w' N (up X.s) X.k X.n X.lo X.hi (up X.p) ∧ Br w' (N + 1) (up Y.s) Y.k Y.n Y.lo Y.hi (up Y.p) ∧ Br w' k8 (up m.s) m.k m.n m.lo m.hi (up m.p) ∧ Br w' k10 (up m.s) m.k m.n m.lo m.hi (up m.p) ∧ Below N w w')) (by kernel_rfl) (HCL.out _ _ hS0 ((Below.refl _ _).drew)) (fun hHeld => ?_)
      refine wpAnyH_ready (rs := [0]) (by kernel_rfl) (by simp) ?_
      refine AllReadyH.cons (o := ({ dst := some 36, op := Op.call { callee := Callee.value (Operand.func 12), args := #[], argTypes := #[] }, type := 4, pos := "law.go:35", after := #[], guard := none } : Oper)) rfl (fun K hK => ?_) AllReadyH.nil
      go_simp
      go_at_call 12
      refine (lift (told_any _) (by assumption) HCL.out).mono ?_
      rintro e v1 ⟨rfl, g1⟩
      clear hHeld
      refine hK.out _ _ g1 (fun hHeld => ?_)
      clear hK K
      refine wpAnyH_take (i := 1) (oi := ({ dst := some 37, op := Op.unOp UnOp.not 4 (Operand.tmp 36), type := 4, pos := "law.go:35", after := #[{ on := 0, ground := Ground.data }], guard := none } : Oper)) (v := ?_) rfl (by kernel_rfl) (by kernel_rfl) (by kernel_rfl) (fun _ _ _ h => h) (Or.inl ⟨by rfl, ?_⟩) (by assumption) ?_
      rotate_left
      · (intro wz hSw; (try dsimp only at hSw); go_simp; try with_reducible rfl)
      simp only [Act.put, List.setIfInBounds_toArray, List.set_cons_zero, List.set_cons_succ]
      refine wpAnyH_take (i := 2) (oi := ({ dst := some 38, op := Op.move (Operand.tmp 37), type := 4, pos := "law.go:35", after := #[{ on := 1, ground := Ground.data }, { on := 0, ground := Ground.chain }], guard := none } : Oper)) (v := ?_) rfl (by kernel_rfl) (by kernel_rfl) (by kernel_rfl) (fun _ _ _ h => h) (Or.inl ⟨by rfl, ?_⟩) (by assumption) ?_
      rotate_left
      · (intro wz hSw; (try dsimp only at hSw); go_simp; try with_reducible rfl)
      simp only [Act.put, List.setIfInBounds_toArray, List.set_cons_zero, List.set_cons_succ]
      refine wpAnyH_take (i := 3) (oi := ({ dst := some 39, op := Op.move (Operand.tmp 7), type := 4, pos := "law.go:35", after := #[{ on := 2, ground := Ground.guard }], guard := some (2, false) } : Oper)) (v := ?_) rfl (by kernel_rfl) (by kernel_rfl) (by kernel_rfl) (fun _ _ _ h => h) (Or.inl ⟨by rfl, ?_⟩) (by assumption) ?_
      rotate_left
      · (intro wz hSw; (try dsimp only at hSw); go_simp; try with_reducible rfl)
      simp only [Act.put, List.setIfInBounds_toArray, List.set_cons_zero, List.set_cons_succ]
      refine wpAnyH_take (i := 4) (oi := ({ dst := some 40, op := Op.unOp UnOp.not 4 (Operand.tmp 39), type := 4, pos := "law.go:35", after := #[{ on := 3, ground := Ground.data }, { on := 2, ground := Ground.guard }], guard := some (2, false) } : Oper)) (v := ?_) rfl (by kernel_rfl) (by kernel_rfl) (by kernel_rfl) (fun _ _ _ h => h) (Or.inl ⟨by rfl, ?_⟩) (by assumption) ?_
      rotate_left
      · (intro wz hSw; (try dsimp only at hSw); go_simp; try with_reducible rfl)
      simp only [Act.put, List.setIfInBounds_toArray, List.set_cons_zero, List.set_cons_succ]
      refine wpAnyH_take (i := 5) (oi := ({ dst := some 41, op := Op.pick (Operand.tmp 38) (Operand.const (Value.bool true)) (Operand.tmp 40), type := 4, pos := "law.go:35", after := #[{ on := 2, ground := Ground.data }, { on := 4, ground := Ground.data }], guard := none } : Oper)) (v := ?_) rfl (by kernel_rfl) (by kernel_rfl) (by kernel_rfl) (fun _ _ _ h => h) (Or.inl ⟨by rfl, ?_⟩) (by assumption) ?_
      rotate_left
      · (intro wz hSw; (try dsimp only at hSw); go_simp; try with_reducible rfl)
      simp only [Act.put, List.setIfInBounds_toArray, List.set_cons_zero, List.set_cons_succ]
      refine wpAnyH_take (i := 6) (oi := ({ dst := some 42, op := Op.move (Operand.tmp 41), type := 4, pos := "law.go:35", after := #[{ on := 5, ground := Ground.data }, { on := 2, ground := Ground.chain }], guard := none } : Oper)) (v := ?_) rfl (by kernel_rfl) (by kernel_rfl) (by kernel_rfl) (fun _ _ _ h => h) (Or.inl ⟨by rfl, ?_⟩) (by assumption) ?_
      rotate_left
      · (intro wz hSw; (try dsimp only at hSw); go_simp; try with_reducible rfl)
      simp only [Act.put, List.setIfInBounds_toArray, List.set_cons_zero, List.set_cons_succ]
      refine wpAnyH_take (i := 7) (oi := ({ dst := some 43, op := Op.load 32 (Operand.tmp 8), type := 32, pos := "law.go:35", after := #[{ on := 6, ground := Ground.guard }], guard := some (6, false) } : Oper)) (v := ?_) rfl (by kernel_rfl) (by kernel_rfl) (by kernel_rfl) (fun _ _ _ h => h) (Or.inl ⟨by rfl, ?_⟩) (by assumption) ?_
      rotate_left
      · (intro wz hSw; (try dsimp only at hSw); go_simp; try with_reducible rfl)
      simp only [Act.put, List.setIfInBounds_toArray, List.set_cons_zero, List.set_cons_succ]
      refine wpAnyH_take (i := 9) (oi := ({ dst := some 45, op := Op.load 27 (Operand.tmp 10), type := 27, pos := "law.go:35", after := #[{ on := 6, ground := Ground.guard }], guard := some (6, false) } : Oper)) (v := ?_) rfl (by kernel_rfl) (by kernel_rfl) (by kernel_rfl) (fun _ _ _ h => h) (Or.inl ⟨by rfl, ?_⟩) (by assumption) ?_
      rotate_left
      · (intro wz hSw; (try dsimp only at hSw); go_simp; try with_reducible rfl)
      simp only [Act.put, List.setIfInBounds_toArray, List.set_cons_zero, List.set_cons_succ]
      refine wpAnyH_ready (rs := [8]) (by kernel_rfl) (by simp) ?_
      refine AllReadyH.cons (o := ({ dst := some 44, op := Op.call { callee := Callee.value (Operand.func 13), args := #[Operand.tmp 43], argTypes := #[32] }, type := 27, pos := "law.go:35", after := #[{ on := 7, ground := Ground.data }, { on := 6, ground := Ground.chain }, { on := 6, ground := Ground.guard }], guard := some (6, false) } : Oper)) rfl (fun K hK => ?_) AllReadyH.nil
      go_simp
      go_at_call 13
      refine (lift (from_V _ _ _ _ _ _ _) (by assumption) HCL.out).mono ?_
      rintro e v2 ⟨rfl, g2⟩
      clear hHeld g1
      refine hK.out _ _ g2 (fun hHeld => ?_)
      clear hK K
      refine wpAnyH_take (i := 10) (oi := ({ dst := some 46, op := Op.binOp BinOp.neq 27 (Operand.tmp 44) (Operand.tmp 45) 27, type := 4, pos := "law.go:35", after := #[{ on := 8, ground := Ground.data }, { on := 9, ground := Ground.data }, { on := 6, ground := Ground.guard }], guard := some (6, false) } : Oper)) (v := ?_) rfl (by kernel_rfl) (by kernel_rfl) (by kernel_rfl) (fun _ _ _ h => h) (Or.inl ⟨by rfl, ?_⟩) (by assumption) ?_
      rotate_left
      · (intro wz hSw; (try dsimp only at hSw); go_simp; try with_reducible rfl)
      simp only [Act.put, List.setIfInBounds_toArray, List.set_cons_zero, List.set_cons_succ]
      refine wpAnyH_take (i := 11) (oi := ({ dst := some 47, op := Op.pick (Operand.tmp 42) (Operand.const (Value.bool true)) (Operand.tmp 46), type := 4, pos := "law.go:35", after := #[{ on := 6, ground := Ground.data }, { on := 10, ground := Ground.data }], guard := none } : Oper)) (v := ?_) rfl (by kernel_rfl) (by kernel_rfl) (by kernel_rfl) (fun _ _ _ h => h) (Or.inl ⟨by rfl, ?_⟩) (by assumption) ?_
      rotate_left
      · (intro wz hSw; (try dsimp only at hSw); go_simp; try with_reducible rfl)
      simp only [Act.put, List.setIfInBounds_toArray, List.set_cons_zero, List.set_cons_succ]
      refine wpAnyH_take (i := 12) (oi := ({ dst := some 48, op := Op.move (Operand.tmp 47), type := 4, pos := "law.go:35", after := #[{ on := 11, ground := Ground.data }, { on := 8, ground := Ground.chain }], guard := none } : Oper)) (v := ?_) rfl (by kernel_rfl) (by kernel_rfl) (by kernel_rfl) (fun _ _ _ h => h) (Or.inl ⟨by rfl, ?_⟩) (by assumption) ?_
      rotate_left
      · (intro wz hSw; (try dsimp only at hSw); go_simp; try with_reducible rfl)
      simp only [Act.put, List.setIfInBounds_toArray, List.set_cons_zero, List.set_cons_succ]
      refine wpAnyH_take (i := 13) (oi := ({ dst := some 49, op := Op.move (Operand.tmp 9), type := 4, pos := "law.go:35", after := #[{ on := 12, ground := Ground.guard }], guard := some (12, false) } : Oper)) (v := ?_) rfl (by kernel_rfl) (by kernel_rfl) (by kernel_rfl) (fun _ _ _ h => h) (Or.inl ⟨by rfl, ?_⟩) (by assumption) ?_
      rotate_left
      · (intro wz hSw; (try dsimp only at hSw); go_simp; try with_reducible rfl)
      simp only [Act.put, List.setIfInBounds_toArray, List.set_cons_zero, List.set_cons_succ]
      refine wpAnyH_take (i := 14) (oi := ({ dst := some 50, op := Op.move (Operand.tmp 11), type := 4, pos := "law.go:35", after := #[{ on := 12, ground := Ground.guard }], guard := some (12, false) } : Oper)) (v := ?_) rfl (by kernel_rfl) (by kernel_rfl) (by kernel_rfl) (fun _ _ _ h => h) (Or.inl ⟨by rfl, ?_⟩) (by assumption) ?_
      rotate_left
      · (intro wz hSw; (try dsimp only at hSw); go_simp; try with_reducible rfl)
      simp only [Act.put, List.setIfInBounds_toArray, List.set_cons_zero, List.set_cons_succ]
      refine wpAnyH_take (i := 15) (oi := ({ dst := some 51, op := Op.binOp BinOp.neq 4 (Operand.tmp 49) (Operand.tmp 50) 4, type := 4, pos := "law.go:35", after := #[{ on := 13, ground := Ground.data }, { on := 14, ground := Ground.data }, { on := 12, ground := Ground.guard }], guard := some (12, false) } : Oper)) (v := ?_) rfl (by kernel_rfl) (by kernel_rfl) (by kernel_rfl) (fun _ _ _ h => h) (Or.inl ⟨by rfl, ?_⟩) (by assumption) ?_
      rotate_left
      · (intro wz hSw; (try dsimp only at hSw); go_simp; try with_reducible rfl)
      simp only [Act.put, List.setIfInBounds_toArray, List.set_cons_zero, List.set_cons_succ]
      refine wpAnyH_take (i := 16) (oi := ({ dst := some 52, op := Op.pick (Operand.tmp 48) (Operand.const (Value.bool true)) (Operand.tmp 51), type := 4, pos := "law.go:35", after := #[{ on := 12, ground := Ground.data }, { on := 15, ground := Ground.data }], guard := none } : Oper)) (v := ?_) rfl (by kernel_rfl) (by kernel_rfl) (by kernel_rfl) (fun _ _ _ h => h) (Or.inl ⟨by rfl, ?_⟩) (by assumption) ?_
      rotate_left
      · (intro wz hSw; (try dsimp only at hSw); go_simp; try with_reducible rfl)
      simp only [Act.put, List.setIfInBounds_toArray, List.set_cons_zero, List.set_cons_succ]
      refine wpAnyH_done (by kernel_rfl) ?_ _
      have H5 : Hid (Br v2 N (up X.s) X.k X.n X.lo X.hi (up X.p) ∧ Br v2 (N + 1) (up Y.s) Y.k Y.n Y.lo Y.hi (up Y.p) ∧ Below N w v2) := hide ⟨(g2.2.2.2.2.2.2.2.2.2.2.2.2).out.1, (g2.2.2.2.2.2.2.2.2.2.2.2.2).out.2.1, (g2.2.2.2.2.2.2.2.2.2.2.2.2).out.2.2.2.2⟩
      clear hS0 HCL hHeld g2
      go_upto_region 7 with fail
      have HCL : Hid (∀ a b : World, (a.cell? ⟨N, 0, none⟩ = some (.int .i64 (up X.s)) ∧ a.cell? ⟨N, 1, none⟩ = some (.bool X.k) ∧ a.cell? ⟨N, 2, none⟩ = some (.int .i64 X.n) ∧ a.cell? ⟨N, 3, none⟩ = some (.int .i64 X.lo) ∧ a.cell? ⟨N, 4, none⟩ = some (.int .i64 X.hi) ∧ a.cell? ⟨N, 5, none⟩ = some (.int .i64 (up X.p)) ∧ a.cell? ⟨(N + 1), 0, none⟩ = some (.int .i64 (up Y.s)) ∧ a.cell? ⟨(N + 1), 1, none⟩ = some (.bool Y.k) ∧ a.cell? ⟨(N + 1), 2, none⟩ = some (.int .i64 Y.n) ∧ a.cell? ⟨(N + 1), 3, none⟩ = some (.int .i64 Y.lo) ∧ a.cell? ⟨(N + 1), 4, none⟩ = some (.int .i64 Y.hi) ∧ a.cell? ⟨(N + 1), 5, none⟩ = some (.int .i64 (up Y.p)) ∧ Hid (Br a N (up X.s) X.k X.n X.lo X.hi (up X.p) ∧ Br a (N + 1) (up Y.s) Y.k Y.n Y.lo Y.hi (up Y.p) ∧ Below N w a)) → Below a.heap.size a b → (b.cell? ⟨N, 0, none⟩ = some (.int .i64 (up X.s)) ∧ b.cell? ⟨N, 1, none⟩ = some (.bool X.k) ∧ b.cell? ⟨N, 2, none⟩ = some (.int .i64 X.n) ∧ b.cell? ⟨N, 3, none⟩ = some (.int .i64 X.lo) ∧ b.cell? ⟨N, 4, none⟩ = some (.int .i64 X.hi) ∧ b.cell? ⟨N, 5, none⟩ = some (.int .i64 (up X.p)) ∧ b.cell? ⟨(N + 1), 0, none⟩ = some (.int .i64 (up Y.s)) ∧ b.cell? ⟨(N + 1), 1, none⟩ = some (.bool Y.k) ∧ b.cell? ⟨(N + 1), 2, none⟩ = some (.int .i64 Y.n) ∧ b.cell? ⟨(N + 1), 3, none⟩ = some (.int .i64 Y.lo) ∧ b.cell? ⟨(N + 1), 4, none⟩ = some (.int .i64 Y.hi) ∧ b.cell? ⟨(N + 1), 5, none⟩ = some (.int .i64 (up Y.p)) ∧ Hid (Br b N (up X.s) X.k X.n X.lo X.hi (up X.p) ∧ Br b (N + 1) (up Y.s) Y.k Y.n Y.lo Y.hi (up Y.p) ∧ Below N w b))) := fun a b h hb => by
        have y9 := (h.2.2.2.2.2.2.2.2.2.2.2.2).out
        have z9 : Br b N (up X.s) X.k X.n X.lo X.hi (up X.p) ∧ Br b (N + 1) (up Y.s) Y.k Y.n Y.lo Y.hi (up Y.p) ∧ Below N w b := ⟨y9.1.keep hb, y9.2.1.keep hb, y9.2.2.trans (hb.mono (Nat.le_of_lt y9.1.lt))⟩
        exact ⟨z9.1.c0, z9.1.c1, z9.1.c2, z9.1.c3, z9.1.c4, z9.1.c5, z9.2.1.c0, z9.2.1.c1, z9.2.1.c2, z9.2.1.c3, z9.2.1.c4, z9.2.1.c5, z9⟩
      have hS0 : v2.cell? ⟨N, 0, none⟩ = some (.int .i64 (up X.s)) ∧ v2.cell? ⟨N, 1, none⟩ = some (.bool X.k) ∧ v2.cell? ⟨N, 2, none⟩ = some (.int .i64 X.n) ∧ v2.cell? ⟨N, 3, none⟩ = some (.int .i64 X.lo) ∧ v2.cell? ⟨N, 4, none⟩ = some (.int .i64 X.hi) ∧ v2.cell? ⟨N, 5, none⟩ = some (.int .i64 (up X.p)) ∧ v2.cell? ⟨(N + 1), 0, none⟩ = some (.int .i64 (up Y.s)) ∧ v2.cell? ⟨(N + 1), 1, none⟩ = some (.bool Y.k) ∧ v2.cell? ⟨(N + 1), 2, none⟩ = some (.int .i64 Y.n) ∧ v2.cell? ⟨(N + 1), 3, none⟩ = some (.int .i64 Y.lo) ∧ v2.cell? ⟨(N + 1), 4, none⟩ = some (.int .i64 Y.hi) ∧ v2.cell? ⟨(N + 1), 5, none⟩ = some (.int .i64 (up Y.p)) ∧ Hid (Br v2 N (up X.s) X.k X.n X.lo X.hi (up X.p) ∧ Br v2 (N + 1) (up Y.s) Y.k Y.n Y.lo Y.hi (up Y.p) ∧ Below N w v2) := ⟨H5.out.1.c0, H5.out.1.c1, H5.out.1.c2, H5.out.1.c3, H5.out.1.c4, H5.out.1.c5, H5.out.2.1.c0, H5.out.2.1.c1, H5.out.2.1.c2, H5.out.2.1.c3, H5.out.2.1.c4, H5.out.2.1.c5, H5.out⟩
      clear H5
      refine wp_region_held_drew (S := fun w' => w'.cell? ⟨N, 0, none⟩ = some (.int .i64 (up X.s)) ∧ w'.cell? ⟨N, 1, none⟩ = some (.bool X.k) ∧ w'.cell? ⟨N, 2, none⟩ = some (.int .i64 X.n) ∧ w'.cell? ⟨N, 3, none⟩ = some (.int .i64 X.lo) ∧ w'.cell? ⟨N, 4, none⟩ = some (.int .i64 X.hi) ∧ w'.cell? ⟨N, 5, none⟩ = some (.int .i64 (up X.p)) ∧ w'.cell? ⟨(N + 1), 0, none⟩ = some (.int .i64 (up Y.s)) ∧ w'.cell? ⟨(N + 1), 1, none⟩ = some (.bool Y.k) ∧ w'.cell? ⟨(N + 1), 2, none⟩ = some (.int .i64 Y.n) ∧ w'.cell? ⟨(N + 1), 3, none⟩ = some (.int .i64 Y.lo) ∧ w'.cell? ⟨(N + 1), 4, none⟩ = some (.int .i64 Y.hi) ∧ w'.cell? ⟨(N + 1), 5, none⟩ = some (.int .i64 (up Y.p)) ∧ Hid (Br w' N (up X.s) X.k X.n X.lo X.hi (up X.p) ∧ Br w' (N + 1) (up Y.s) Y.k Y.n Y.lo Y.hi (up Y.p) ∧ Below N w w')) (by kernel_rfl) (HCL.out _ _ hS0 ((Below.refl _ _).drew)) (fun hHeld => ?_)
      refine wpAnyH_take (i := 0) (oi := ({ dst := some 53, op := Op.move (Operand.tmp 2), type := 2, pos := "law.go:38", after := #[], guard := none } : Oper)) (v := ?_) rfl (by kernel_rfl) (by kernel_rfl) (by kernel_rfl) (fun _ _ _ h => h) (Or.inl ⟨by rfl, ?_⟩) (by assumption) ?_
      rotate_left
      · (intro wz hSw; (try dsimp only at hSw); go_simp; try with_reducible rfl)
      simp only [Act.put, List.setIfInBounds_toArray, List.set_cons_zero, List.set_cons_succ]
      refine wpAnyH_take (i := 3) (oi := ({ dst := some 56, op := Op.move (Operand.tmp 2), type := 2, pos := "law.go:38", after := #[], guard := none } : Oper)) (v := ?_) rfl (by kernel_rfl) (by kernel_rfl) (by kernel_rfl) (fun _ _ _ h => h) (Or.inl ⟨by rfl, ?_⟩) (by assumption) ?_
      rotate_left
      · (intro wz hSw; (try dsimp only at hSw); go_simp; try with_reducible rfl)
      simp only [Act.put, List.setIfInBounds_toArray, List.set_cons_zero, List.set_cons_succ]
      refine wpAnyH_ready (rs := [1]) (by kernel_rfl) (by simp) ?_
      refine AllReadyH.cons (o := ({ dst := some 54, op := Op.call { callee := Callee.value (Operand.func 14), args := #[Operand.tmp 53], argTypes := #[2] }, type := 32, pos := "law.go:38", after := #[{ on := 0, ground := Ground.data }], guard := none } : Oper)) rfl (fun K hK => ?_) AllReadyH.nil
      go_simp
      go_at_call 14
      refine (lift (p1 _) (by assumption) HCL.out).mono ?_
      rintro e v1 ⟨rfl, g1⟩
      clear hHeld
      refine hK.out _ _ g1 (fun hHeld => ?_)
      clear hK K
      refine wpAnyH_ready (rs := [2]) (by kernel_rfl) (by simp) ?_
      refine AllReadyH.cons (o := ({ dst := some 55, op := Op.call { callee := Callee.value (Operand.func 13), args := #[Operand.tmp 54], argTypes := #[32] }, type := 27, pos := "law.go:38", after := #[{ on := 1, ground := Ground.data }, { on := 1, ground := Ground.chain }], guard := none } : Oper)) rfl (fun K hK => ?_) AllReadyH.nil
      go_simp
      go_at_call 13
      refine (lift (from_V _ _ _ _ _ _ _) (by assumption) HCL.out).mono ?_
      rintro e v2 ⟨rfl, g2⟩
      clear hHeld g1
      refine hK.out _ _ g2 (fun hHeld => ?_)
      clear hK K
      refine wpAnyH_ready (rs := [4]) (by kernel_rfl) (by simp) ?_
      refine AllReadyH.cons (o := ({ dst := some 57, op := Op.call { callee := Callee.value (Operand.func 15), args := #[Operand.tmp 56], argTypes := #[2] }, type := 27, pos := "law.go:38", after := #[{ on := 3, ground := Ground.data }, { on := 2, ground := Ground.chain }], guard := none } : Oper)) rfl (fun K hK => ?_) AllReadyH.nil
      go_simp
      go_at_call 15
      refine (lift (p2 _) (by assumption) HCL.out).mono ?_
      rintro e v3 ⟨rfl, g3⟩
      clear hHeld g2
      refine hK.out _ _ g3 (fun hHeld => ?_)
      clear hK K
      refine wpAnyH_take (i := 5) (oi := ({ dst := some 58, op := Op.binOp BinOp.eql 27 (Operand.tmp 55) (Operand.tmp 57) 27, type := 4, pos := "law.go:38", after := #[{ on := 2, ground := Ground.data }, { on := 4, ground := Ground.data }], guard := none } : Oper)) (v := ?_) rfl (by kernel_rfl) (by kernel_rfl) (by kernel_rfl) (fun _ _ _ h => h) (Or.inl ⟨by rfl, ?_⟩) (by assumption) ?_
      rotate_left
      · (intro wz hSw; (try dsimp only at hSw); go_simp; try with_reducible rfl)
      simp only [Act.put, List.setIfInBounds_toArray, List.set_cons_zero, List.set_cons_succ]
      refine wpAnyH_take (i := 6) (oi := ({ dst := some 59, op := Op.move (Operand.tmp 58), type := 4, pos := "law.go:38", after := #[{ on := 5, ground := Ground.data }, { on := 4, ground := Ground.chain }], guard := none } : Oper)) (v := ?_) rfl (by kernel_rfl) (by kernel_rfl) (by kernel_rfl) (fun _ _ _ h => h) (Or.inl ⟨by rfl, ?_⟩) (by assumption) ?_
      rotate_left
      · (intro wz hSw; (try dsimp only at hSw); go_simp; try with_reducible rfl)
      simp only [Act.put, List.setIfInBounds_toArray, List.set_cons_zero, List.set_cons_succ]
      refine wpAnyH_ready (rs := [7]) (by kernel_rfl) (by simp) ?_
      refine AllReadyH.cons (o := ({ dst := some 60, op := Op.call { callee := Callee.value (Operand.func 16), args := #[], argTypes := #[] }, type := 32, pos := "law.go:38", after := #[{ on := 6, ground := Ground.chain }, { on := 6, ground := Ground.guard }], guard := some (6, true) } : Oper)) rfl (fun K hK => ?_) AllReadyH.nil
      go_simp
      go_at_call 16
      refine (lift (a1 _) (by assumption) HCL.out).mono ?_
      rintro e v4 ⟨rfl, g4⟩
      clear hHeld g3
      refine hK.out _ _ g4 (fun hHeld => ?_)
      clear hK K
      refine wpAnyH_ready (rs := [8]) (by kernel_rfl) (by simp) ?_
      refine AllReadyH.cons (o := ({ dst := some 61, op := Op.call { callee := Callee.value (Operand.func 13), args := #[Operand.tmp 60], argTypes := #[32] }, type := 27, pos := "law.go:38", after := #[{ on := 7, ground := Ground.data }, { on := 7, ground := Ground.chain }, { on := 6, ground := Ground.guard }], guard := some (6, true) } : Oper)) rfl (fun K hK => ?_) AllReadyH.nil
      go_simp
      go_at_call 13
      refine (lift (from_V _ _ _ _ _ _ _) (by assumption) HCL.out).mono ?_
      rintro e v5 ⟨rfl, g5⟩
      clear hHeld g4
      refine hK.out _ _ g5 (fun hHeld => ?_)
      clear hK K
      refine wpAnyH_ready (rs := [9]) (by kernel_rfl) (by simp) ?_
      refine AllReadyH.cons (o := ({ dst := some 62, op := Op.call { callee := Callee.value (Operand.func 17), args := #[], argTypes := #[] }, type := 27, pos := "law.go:38", after := #[{ on := 8, ground := Ground.chain }, { on := 6, ground := Ground.guard }], guard := some (6, true) } : Oper)) rfl (fun K hK => ?_) AllReadyH.nil
      go_simp
      go_at_call 17
      refine (lift (a2 _) (by assumption) HCL.out).mono ?_
      rintro e v6 ⟨rfl, g6⟩
      clear hHeld g5
      refine hK.out _ _ g6 (fun hHeld => ?_)
      clear hK K
      refine wpAnyH_take (i := 10) (oi := ({ dst := some 63, op := Op.binOp BinOp.eql 27 (Operand.tmp 61) (Operand.tmp 62) 27, type := 4, pos := "law.go:38", after := #[{ on := 8, ground := Ground.data }, { on := 9, ground := Ground.data }, { on := 6, ground := Ground.guard }], guard := some (6, true) } : Oper)) (v := ?_) rfl (by kernel_rfl) (by kernel_rfl) (by kernel_rfl) (fun _ _ _ h => h) (Or.inl ⟨by rfl, ?_⟩) (by assumption) ?_
      rotate_left
      · (intro wz hSw; (try dsimp only at hSw); go_simp; try with_reducible rfl)
      simp only [Act.put, List.setIfInBounds_toArray, List.set_cons_zero, List.set_cons_succ]
      refine wpAnyH_take (i := 11) (oi := ({ dst := some 64, op := Op.pick (Operand.tmp 59) (Operand.tmp 63) (Operand.const (Value.bool false)), type := 4, pos := "law.go:38", after := #[{ on := 6, ground := Ground.data }, { on := 10, ground := Ground.data }], guard := none } : Oper)) (v := ?_) rfl (by kernel_rfl) (by kernel_rfl) (by kernel_rfl) (fun _ _ _ h => h) (Or.inl ⟨by rfl, ?_⟩) (by assumption) ?_
      rotate_left
      · (intro wz hSw; (try dsimp only at hSw); go_simp; try with_reducible rfl)
      simp only [Act.put, List.setIfInBounds_toArray, List.set_cons_zero, List.set_cons_succ]
      refine wpAnyH_take (i := 12) (oi := ({ dst := some 65, op := Op.move (Operand.tmp 64), type := 4, pos := "law.go:38", after := #[{ on := 11, ground := Ground.data }, { on := 9, ground := Ground.chain }], guard := none } : Oper)) (v := ?_) rfl (by kernel_rfl) (by kernel_rfl) (by kernel_rfl) (fun _ _ _ h => h) (Or.inl ⟨by rfl, ?_⟩) (by assumption) ?_
      rotate_left
      · (intro wz hSw; (try dsimp only at hSw); go_simp; try with_reducible rfl)
      simp only [Act.put, List.setIfInBounds_toArray, List.set_cons_zero, List.set_cons_succ]
      refine wpAnyH_take (i := 13) (oi := ({ dst := some 66, op := Op.load 27 (Operand.tmp 3), type := 27, pos := "law.go:38", after := #[{ on := 12, ground := Ground.guard }], guard := some (12, true) } : Oper)) (v := ?_) rfl (by kernel_rfl) (by kernel_rfl) (by kernel_rfl) (fun _ _ _ h => h) (Or.inl ⟨by rfl, ?_⟩) (by assumption) ?_
      rotate_left
      · (intro wz hSw; (try dsimp only at hSw); go_simp; try with_reducible rfl)
      simp only [Act.put, List.setIfInBounds_toArray, List.set_cons_zero, List.set_cons_succ]
      refine wpAnyH_take (i := 15) (oi := ({ dst := some 68, op := Op.move (Operand.tmp 2), type := 2, pos := "law.go:38", after := #[{ on := 12, ground := Ground.guard }], guard := some (12, true) } : Oper)) (v := ?_) rfl (by kernel_rfl) (by kernel_rfl) (by kernel_rfl) (fun _ _ _ h => h) (Or.inl ⟨by rfl, ?_⟩) (by assumption) ?_
      rotate_left
      · (intro wz hSw; (try dsimp only at hSw); go_simp; try with_reducible rfl)
      simp only [Act.put, List.setIfInBounds_toArray, List.set_cons_zero, List.set_cons_succ]
      refine wpAnyH_take (i := 17) (oi := ({ dst := some 70, op := Op.load 27 (Operand.tmp 3), type := 27, pos := "law.go:38", after := #[{ on := 12, ground := Ground.guard }], guard := some (12, true) } : Oper)) (v := ?_) rfl (by kernel_rfl) (by kernel_rfl) (by kernel_rfl) (fun _ _ _ h => h) (Or.inl ⟨by rfl, ?_⟩) (by assumption) ?_
      rotate_left
      · (intro wz hSw; (try dsimp only at hSw); go_simp; try with_reducible rfl)
      simp only [Act.put, List.setIfInBounds_toArray, List.set_cons_zero, List.set_cons_succ]
      refine wpAnyH_take (i := 18) (oi := ({ dst := some 71, op := Op.move (Operand.tmp 2), type := 2, pos := "law.go:38", after := #[{ on := 12, ground := Ground.guard }], guard := some (12, true) } : Oper)) (v := ?_) rfl (by kernel_rfl) (by kernel_rfl) (by kernel_rfl) (fun _ _ _ h => h) (Or.inl ⟨by rfl, ?_⟩) (by assumption) ?_
      rotate_left
      · (intro wz hSw; (try dsimp only at hSw); go_simp; try with_reducible rfl)
      simp only [Act.put, List.setIfInBounds_toArray, List.set_cons_zero, List.set_cons_succ]
      refine wpAnyH_ready (rs := [14]) (by kernel_rfl) (by simp) ?_
      refine AllReadyH.cons (o := ({ dst := some 67, op := Op.call { callee := Callee.value (Operand.func 7), args := #[Operand.tmp 66], argTypes := #[27] }, type := 32, pos := "law.go:38", after := #[{ on := 13, ground := Ground.data }, { on := 12, ground := Ground.chain }, { on := 12, ground := Ground.guard }], guard := some (12, true) } : Oper)) rfl (fun K hK => ?_) AllReadyH.nil
      go_simp
      go_at_call 7
      refine (lift (to_V _ _ _ _ _ _ _) (by assumption) HCL.out).mono ?_
      rintro e v7 ⟨rfl, g7⟩
      clear hHeld g6
      refine hK.out _ _ g7 (fun hHeld => ?_)
      clear hK K
      refine wpAnyH_ready (rs := [16]) (by kernel_rfl) (by simp) ?_
      refine AllReadyH.cons (o := ({ dst := some 69, op := Op.call { callee := Callee.value (Operand.func 18), args := #[Operand.tmp 67, Operand.tmp 68], argTypes := #[32, 2] }, type := 4, pos := "law.go:38", after := #[{ on := 14, ground := Ground.data }, { on := 15, ground := Ground.data }, { on := 14, ground := Ground.chain }, { on := 12, ground := Ground.guard }], guard := some (12, true) } : Oper)) rfl (fun K hK => ?_) AllReadyH.nil
      go_simp
      go_at_call 18
      refine (lift (h1 _) (by assumption) HCL.out).mono ?_
      rintro e v8 ⟨rfl, g8⟩
      clear hHeld g7
      refine hK.out _ _ g8 (fun hHeld => ?_)
      clear hK K
      refine wpAnyH_ready (rs := [19]) (by kernel_rfl) (by simp) ?_
      refine AllReadyH.cons (o := ({ dst := some 72, op := Op.call { callee := Callee.value (Operand.func 19), args := #[Operand.tmp 70, Operand.tmp 71], argTypes := #[27, 2] }, type := 4, pos := "law.go:38", after := #[{ on := 17, ground := Ground.data }, { on := 18, ground := Ground.data }, { on := 16, ground := Ground.chain }, { on := 12, ground := Ground.guard }], guard := some (12, true) } : Oper)) rfl (fun K hK => ?_) AllReadyH.nil
      go_simp
      go_at_call 19
      refine (lift (h2 _) (by assumption) HCL.out).mono ?_
      rintro e v9 ⟨rfl, g9⟩
      clear hHeld g8
      refine hK.out _ _ g9 (fun hHeld => ?_)
      clear hK K
      refine wpAnyH_take (i := 20) (oi := ({ dst := some 73, op := Op.binOp BinOp.eql 4 (Operand.tmp 69) (Operand.tmp 72) 4, type := 4, pos := "law.go:38", after := #[{ on := 16, ground := Ground.data }, { on := 19, ground := Ground.data }, { on := 12, ground := Ground.guard }], guard := some (12, true) } : Oper)) (v := ?_) rfl (by kernel_rfl) (by kernel_rfl) (by kernel_rfl) (fun _ _ _ h => h) (Or.inl ⟨by rfl, ?_⟩) (by assumption) ?_
      rotate_left
      · (intro wz hSw; (try dsimp only at hSw); go_simp; try with_reducible rfl)
      simp only [Act.put, List.setIfInBounds_toArray, List.set_cons_zero, List.set_cons_succ]
      refine wpAnyH_take (i := 21) (oi := ({ dst := some 74, op := Op.pick (Operand.tmp 65) (Operand.tmp 73) (Operand.const (Value.bool false)), type := 4, pos := "law.go:38", after := #[{ on := 12, ground := Ground.data }, { on := 20, ground := Ground.data }], guard := none } : Oper)) (v := ?_) rfl (by kernel_rfl) (by kernel_rfl) (by kernel_rfl) (fun _ _ _ h => h) (Or.inl ⟨by rfl, ?_⟩) (by assumption) ?_
      rotate_left
      · (intro wz hSw; (try dsimp only at hSw); go_simp; try with_reducible rfl)
      simp only [Act.put, List.setIfInBounds_toArray, List.set_cons_zero, List.set_cons_succ]
      refine wpAnyH_take (i := 22) (oi := ({ dst := some 75, op := Op.move (Operand.tmp 74), type := 4, pos := "law.go:38", after := #[{ on := 21, ground := Ground.data }, { on := 19, ground := Ground.chain }], guard := none } : Oper)) (v := ?_) rfl (by kernel_rfl) (by kernel_rfl) (by kernel_rfl) (fun _ _ _ h => h) (Or.inl ⟨by rfl, ?_⟩) (by assumption) ?_
      rotate_left
      · (intro wz hSw; (try dsimp only at hSw); go_simp; try with_reducible rfl)
      simp only [Act.put, List.setIfInBounds_toArray, List.set_cons_zero, List.set_cons_succ]
      refine wpAnyH_take (i := 23) (oi := ({ dst := some 76, op := Op.load 27 (Operand.tmp 3), type := 27, pos := "law.go:38", after := #[{ on := 22, ground := Ground.guard }], guard := some (22, true) } : Oper)) (v := ?_) rfl (by kernel_rfl) (by kernel_rfl) (by kernel_rfl) (fun _ _ _ h => h) (Or.inl ⟨by rfl, ?_⟩) (by assumption) ?_
      rotate_left
      · (intro wz hSw; (try dsimp only at hSw); go_simp; try with_reducible rfl)
      simp only [Act.put, List.setIfInBounds_toArray, List.set_cons_zero, List.set_cons_succ]
      refine wpAnyH_take (i := 25) (oi := ({ dst := some 78, op := Op.load 27 (Operand.tmp 4), type := 27, pos := "law.go:38", after := #[{ on := 22, ground := Ground.guard }], guard := some (22, true) } : Oper)) (v := ?_) rfl (by kernel_rfl) (by kernel_rfl) (by kernel_rfl) (fun _ _ _ h => h) (Or.inl ⟨by rfl, ?_⟩) (by assumption) ?_
      rotate_left
      · (intro wz hSw; (try dsimp only at hSw); go_simp; try with_reducible rfl)
      simp only [Act.put, List.setIfInBounds_toArray, List.set_cons_zero, List.set_cons_succ]
      refine wpAnyH_take (i := 29) (oi := ({ dst := some 82, op := Op.load 27 (Operand.tmp 3), type := 27, pos := "law.go:38", after := #[{ on := 22, ground := Ground.guard }], guard := some (22, true) } : Oper)) (v := ?_) rfl (by kernel_rfl) (by kernel_rfl) (by kernel_rfl) (fun _ _ _ h => h) (Or.inl ⟨by rfl, ?_⟩) (by assumption) ?_
      rotate_left
      · (intro wz hSw; (try dsimp only at hSw); go_simp; try with_reducible rfl)
      simp only [Act.put, List.setIfInBounds_toArray, List.set_cons_zero, List.set_cons_succ]
      refine wpAnyH_take (i := 30) (oi := ({ dst := some 83, op := Op.load 27 (Operand.tmp 4), type := 27, pos := "law.go:38", after := #[{ on := 22, ground := Ground.guard }], guard := some (22, true) } : Oper)) (v := ?_) rfl (by kernel_rfl) (by kernel_rfl) (by kernel_rfl) (fun _ _ _ h => h) (Or.inl ⟨by rfl, ?_⟩) (by assumption) ?_
      rotate_left
      · (intro wz hSw; (try dsimp only at hSw); go_simp; try with_reducible rfl)
      simp only [Act.put, List.setIfInBounds_toArray, List.set_cons_zero, List.set_cons_succ]
      refine wpAnyH_ready (rs := [24]) (by kernel_rfl) (by simp) ?_
      refine AllReadyH.cons (o := ({ dst := some 77, op := Op.call { callee := Callee.value (Operand.func 7), args := #[Operand.tmp 76], argTypes := #[27] }, type := 32, pos := "law.go:38", after := #[{ on := 23, ground := Ground.data }, { on := 22, ground := Ground.chain }, { on := 22, ground := Ground.guard }], guard := some (22, true) } : Oper)) rfl (fun K hK => ?_) AllReadyH.nil
      go_simp
      go_at_call 7
      refine (lift (to_V _ _ _ _ _ _ _) (by assumption) HCL.out).mono ?_
      rintro e v10 ⟨rfl, g10⟩
      clear hHeld g9
      refine hK.out _ _ g10 (fun hHeld => ?_)
      clear hK K
      refine wpAnyH_ready (rs := [26]) (by kernel_rfl) (by simp) ?_
      refine AllReadyH.cons (o := ({ dst := some 79, op := Op.call { callee := Callee.value (Operand.func 7), args := #[Operand.tmp 78], argTypes := #[27] }, type := 32, pos := "law.go:38", after := #[{ on := 25, ground := Ground.data }, { on := 24, ground := Ground.chain }, { on := 22, ground := Ground.guard }], guard := some (22, true) } : Oper)) rfl (fun K hK => ?_) AllReadyH.nil
      go_simp
      go_at_call 7
      refine (lift (to_V _ _ _ _ _ _ _) (by assumption) HCL.out).mono ?_
      rintro e v11 ⟨rfl, g11⟩
      clear hHeld g10
      refine hK.out _ _ g11 (fun hHeld => ?_)
      clear hK K
      refine wpAnyH_ready (rs := [27]) (by kernel_rfl) (by simp) ?_
      refine AllReadyH.cons (o := ({ dst := some 80, op := Op.call { callee := Callee.value (Operand.func 20), args := #[Operand.tmp 77, Operand.tmp 79], argTypes := #[32, 32] }, type := 32, pos := "law.go:38", after := #[{ on := 24, ground := Ground.data }, { on := 26, ground := Ground.data }, { on := 26, ground := Ground.chain }, { on := 22, ground := Ground.guard }], guard := some (22, true) } : Oper)) rfl (fun K hK => ?_) AllReadyH.nil
      go_simp
      go_at_call 20
      refine (lift (j1 _) (by assumption) HCL.out).mono ?_
      rintro e v12 ⟨rfl, g12⟩
      clear hHeld g11
      refine hK.out _ _ g12 (fun hHeld => ?_)
      clear hK K
      refine wpAnyH_ready (rs := [28]) (by kernel_rfl) (by simp) ?_
      refine AllReadyH.cons (o := ({ dst := some 81, op := Op.call { callee := Callee.value (Operand.func 13), args := #[Operand.tmp 80], argTypes := #[32] }, type := 27, pos := "law.go:38", after := #[{ on := 27, ground := Ground.data }, { on := 27, ground := Ground.chain }, { on := 22, ground := Ground.guard }], guard := some (22, true) } : Oper)) rfl (fun K hK => ?_) AllReadyH.nil
      go_simp
      go_at_call 13
      refine (lift (from_V _ _ _ _ _ _ _) (by assumption) HCL.out).mono ?_
      rintro e v13 ⟨rfl, g13⟩
      clear hHeld g12
      refine hK.out _ _ g13 (fun hHeld => ?_)
      clear hK K
      refine wpAnyH_ready (rs := [31]) (by kernel_rfl) (by simp) ?_
      refine AllReadyH.cons (o := ({ dst := some 84, op := Op.call { callee := Callee.value (Operand.func 21), args := #[Operand.tmp 82, Operand.tmp 83], argTypes := #[27, 27] }, type := 27, pos := "law.go:38", after := #[{ on := 29, ground := Ground.data }, { on := 30, ground := Ground.data }, { on := 28, ground := Ground.chain }, { on := 22, ground := Ground.guard }], guard := some (22, true) } : Oper)) rfl (fun K hK => ?_) AllReadyH.nil
      go_simp
      go_at_call 21
      refine (lift (j2 _) (by assumption) HCL.out).mono ?_
      rintro e v14 ⟨rfl, g14⟩
      clear hHeld g13
      refine hK.out _ _ g14 (fun hHeld => ?_)
      clear hK K
      refine wpAnyH_take (i := 32) (oi := ({ dst := some 85, op := Op.binOp BinOp.eql 27 (Operand.tmp 81) (Operand.tmp 84) 27, type := 4, pos := "law.go:38", after := #[{ on := 28, ground := Ground.data }, { on := 31, ground := Ground.data }, { on := 22, ground := Ground.guard }], guard := some (22, true) } : Oper)) (v := ?_) rfl (by kernel_rfl) (by kernel_rfl) (by kernel_rfl) (fun _ _ _ h => h) (Or.inl ⟨by rfl, ?_⟩) (by assumption) ?_
      rotate_left
      · (intro wz hSw; (try dsimp only at hSw); go_simp; try with_reducible rfl)
      simp only [Act.put, List.setIfInBounds_toArray, List.set_cons_zero, List.set_cons_succ]
      refine wpAnyH_take (i := 33) (oi := ({ dst := some 86, op := Op.pick (Operand.tmp 75) (Operand.tmp 85) (Operand.const (Value.bool false)), type := 4, pos := "law.go:38", after := #[{ on := 22, ground := Ground.data }, { on := 32, ground := Ground.data }], guard := none } : Oper)) (v := ?_) rfl (by kernel_rfl) (by kernel_rfl) (by kernel_rfl) (fun _ _ _ h => h) (Or.inl ⟨by rfl, ?_⟩) (by assumption) ?_
      rotate_left
      · (intro wz hSw; (try dsimp only at hSw); go_simp; try with_reducible rfl)
      simp only [Act.put, List.setIfInBounds_toArray, List.set_cons_zero, List.set_cons_succ]
      refine wpAnyH_take (i := 34) (oi := ({ dst := some 87, op := Op.move (Operand.tmp 86), type := 4, pos := "law.go:38", after := #[{ on := 33, ground := Ground.data }, { on := 31, ground := Ground.chain }], guard := none } : Oper)) (v := ?_) rfl (by kernel_rfl) (by kernel_rfl) (by kernel_rfl) (fun _ _ _ h => h) (Or.inl ⟨by rfl, ?_⟩) (by assumption) ?_
      rotate_left
      · (intro wz hSw; (try dsimp only at hSw); go_simp; try with_reducible rfl)
      simp only [Act.put, List.setIfInBounds_toArray, List.set_cons_zero, List.set_cons_succ]
      refine wpAnyH_take (i := 35) (oi := ({ dst := some 88, op := Op.load 27 (Operand.tmp 3), type := 27, pos := "law.go:38", after := #[{ on := 34, ground := Ground.guard }], guard := some (34, true) } : Oper)) (v := ?_) rfl (by kernel_rfl) (by kernel_rfl) (by kernel_rfl) (fun _ _ _ h => h) (Or.inl ⟨by rfl, ?_⟩) (by assumption) ?_
      rotate_left
      · (intro wz hSw; (try dsimp only at hSw); go_simp; try with_reducible rfl)
      simp only [Act.put, List.setIfInBounds_toArray, List.set_cons_zero, List.set_cons_succ]
      refine wpAnyH_take (i := 37) (oi := ({ dst := some 90, op := Op.load 27 (Operand.tmp 4), type := 27, pos := "law.go:38", after := #[{ on := 34, ground := Ground.guard }], guard := some (34, true) } : Oper)) (v := ?_) rfl (by kernel_rfl) (by kernel_rfl) (by kernel_rfl) (fun _ _ _ h => h) (Or.inl ⟨by rfl, ?_⟩) (by assumption) ?_
      rotate_left
      · (intro wz hSw; (try dsimp only at hSw); go_simp; try with_reducible rfl)
      simp only [Act.put, List.setIfInBounds_toArray, List.set_cons_zero, List.set_cons_succ]
      refine wpAnyH_take (i := 40) (oi := ({ dst := some 93, op := Op.load 27 (Operand.tmp 3), type := 27, pos := "law.go:38", after := #[{ on := 34, ground := Ground.guard }], guard := some (34, true) } : Oper)) (v := ?_) rfl (by kernel_rfl) (by kernel_rfl) (by kernel_rfl) (fun _ _ _ h => h) (Or.inl ⟨by rfl, ?_⟩) (by assumption) ?_
      rotate_left
      · (intro wz hSw; (try dsimp only at hSw); go_simp; try with_reducible rfl)
      simp only [Act.put, List.setIfInBounds_toArray, List.set_cons_zero, List.set_cons_succ]
      refine wpAnyH_take (i := 41) (oi := ({ dst := some 94, op := Op.load 27 (Operand.tmp 4), type := 27, pos := "law.go:38", after := #[{ on := 34, ground := Ground.guard }], guard := some (34, true) } : Oper)) (v := ?_) rfl (by kernel_rfl) (by kernel_rfl) (by kernel_rfl) (fun _ _ _ h => h) (Or.inl ⟨by rfl, ?_⟩) (by assumption) ?_
      rotate_left
      · (intro wz hSw; (try dsimp only at hSw); go_simp; try with_reducible rfl)
      simp only [Act.put, List.setIfInBounds_toArray, List.set_cons_zero, List.set_cons_succ]
      refine wpAnyH_ready (rs := [36]) (by kernel_rfl) (by simp) ?_
      refine AllReadyH.cons (o := ({ dst := some 89, op := Op.call { callee := Callee.value (Operand.func 7), args := #[Operand.tmp 88], argTypes := #[27] }, type := 32, pos := "law.go:38", after := #[{ on := 35, ground := Ground.data }, { on := 34, ground := Ground.chain }, { on := 34, ground := Ground.guard }], guard := some (34, true) } : Oper)) rfl (fun K hK => ?_) AllReadyH.nil
      go_simp
      go_at_call 7
      refine (lift (to_V _ _ _ _ _ _ _) (by assumption) HCL.out).mono ?_
      rintro e v15 ⟨rfl, g15⟩
      clear hHeld g14
      refine hK.out _ _ g15 (fun hHeld => ?_)
      clear hK K
      refine wpAnyH_ready (rs := [38]) (by kernel_rfl) (by simp) ?_
      refine AllReadyH.cons (o := ({ dst := some 91, op := Op.call { callee := Callee.value (Operand.func 7), args := #[Operand.tmp 90], argTypes := #[27] }, type := 32, pos := "law.go:38", after := #[{ on := 37, ground := Ground.data }, { on := 36, ground := Ground.chain }, { on := 34, ground := Ground.guard }], guard := some (34, true) } : Oper)) rfl (fun K hK => ?_) AllReadyH.nil
      go_simp
      go_at_call 7
      refine (lift (to_V _ _ _ _ _ _ _) (by assumption) HCL.out).mono ?_
      rintro e v16 ⟨rfl, g16⟩
      clear hHeld g15
      refine hK.out _ _ g16 (fun hHeld => ?_)
      clear hK K
      refine wpAnyH_ready (rs := [39]) (by kernel_rfl) (by simp) ?_
      refine AllReadyH.cons (o := ({ dst := some 92, op := Op.call { callee := Callee.value (Operand.func 22), args := #[Operand.tmp 89, Operand.tmp 91], argTypes := #[32, 32] }, type := 4, pos := "law.go:38", after := #[{ on := 36, ground := Ground.data }, { on := 38, ground := Ground.data }, { on := 38, ground := Ground.chain }, { on := 34, ground := Ground.guard }], guard := some (34, true) } : Oper)) rfl (fun K hK => ?_) AllReadyH.nil
      go_simp
      go_at_call 22
      refine (lift (i1 _) (by assumption) HCL.out).mono ?_
      rintro e v17 ⟨rfl, g17⟩
      clear hHeld g16
      refine hK.out _ _ g17 (fun hHeld => ?_)
      clear hK K
      refine wpAnyH_ready (rs := [42]) (by kernel_rfl) (by simp) ?_
      refine AllReadyH.cons (o := ({ dst := some 95, op := Op.call { callee := Callee.value (Operand.func 23), args := #[Operand.tmp 93, Operand.tmp 94], argTypes := #[27, 27] }, type := 4, pos := "law.go:38", after := #[{ on := 40, ground := Ground.data }, { on := 41, ground := Ground.data }, { on := 39, ground := Ground.chain }, { on := 34, ground := Ground.guard }], guard := some (34, true) } : Oper)) rfl (fun K hK => ?_) AllReadyH.nil
      go_simp
      go_at_call 23
      refine (lift (i2 _) (by assumption) HCL.out).mono ?_
      rintro e v18 ⟨rfl, g18⟩
      clear hHeld g17
      refine hK.out _ _ g18 (fun hHeld => ?_)
      clear hK K
      refine wpAnyH_take (i := 43) (oi := ({ dst := some 96, op := Op.binOp BinOp.eql 4 (Operand.tmp 92) (Operand.tmp 95) 4, type := 4, pos := "law.go:38", after := #[{ on := 39, ground := Ground.data }, { on := 42, ground := Ground.data }, { on := 34, ground := Ground.guard }], guard := some (34, true) } : Oper)) (v := ?_) rfl (by kernel_rfl) (by kernel_rfl) (by kernel_rfl) (fun _ _ _ h => h) (Or.inl ⟨by rfl, ?_⟩) (by assumption) ?_
      rotate_left
      · (intro wz hSw; (try dsimp only at hSw); go_simp; try with_reducible rfl)
      simp only [Act.put, List.setIfInBounds_toArray, List.set_cons_zero, List.set_cons_succ]
      refine wpAnyH_take (i := 44) (oi := ({ dst := some 97, op := Op.pick (Operand.tmp 87) (Operand.tmp 96) (Operand.const (Value.bool false)), type := 4, pos := "law.go:38", after := #[{ on := 34, ground := Ground.data }, { on := 43, ground := Ground.data }], guard := none } : Oper)) (v := ?_) rfl (by kernel_rfl) (by kernel_rfl) (by kernel_rfl) (fun _ _ _ h => h) (Or.inl ⟨by rfl, ?_⟩) (by assumption) ?_
      rotate_left
      · (intro wz hSw; (try dsimp only at hSw); go_simp; try with_reducible rfl)
      simp only [Act.put, List.setIfInBounds_toArray, List.set_cons_zero, List.set_cons_succ]
      refine wpAnyH_take (i := 45) (oi := ({ dst := some 98, op := Op.move (Operand.tmp 97), type := 4, pos := "law.go:38", after := #[{ on := 44, ground := Ground.data }, { on := 42, ground := Ground.chain }], guard := none } : Oper)) (v := ?_) rfl (by kernel_rfl) (by kernel_rfl) (by kernel_rfl) (fun _ _ _ h => h) (Or.inl ⟨by rfl, ?_⟩) (by assumption) ?_
      rotate_left
      · (intro wz hSw; (try dsimp only at hSw); go_simp; try with_reducible rfl)
      simp only [Act.put, List.setIfInBounds_toArray, List.set_cons_zero, List.set_cons_succ]
      refine wpAnyH_take (i := 46) (oi := ({ dst := some 99, op := Op.load 27 (Operand.tmp 3), type := 27, pos := "law.go:38", after := #[{ on := 45, ground := Ground.guard }], guard := some (45, true) } : Oper)) (v := ?_) rfl (by kernel_rfl) (by kernel_rfl) (by kernel_rfl) (fun _ _ _ h => h) (Or.inl ⟨by rfl, ?_⟩) (by assumption) ?_
      rotate_left
      · (intro wz hSw; (try dsimp only at hSw); go_simp; try with_reducible rfl)
      simp only [Act.put, List.setIfInBounds_toArray, List.set_cons_zero, List.set_cons_succ]
      refine wpAnyH_take (i := 48) (oi := ({ dst := some 101, op := Op.load 27 (Operand.tmp 4), type := 27, pos := "law.go:38", after := #[{ on := 45, ground := Ground.guard }], guard := some (45, true) } : Oper)) (v := ?_) rfl (by kernel_rfl) (by kernel_rfl) (by kernel_rfl) (fun _ _ _ h => h) (Or.inl ⟨by rfl, ?_⟩) (by assumption) ?_
      rotate_left
      · (intro wz hSw; (try dsimp only at hSw); go_simp; try with_reducible rfl)
      simp only [Act.put, List.setIfInBounds_toArray, List.set_cons_zero, List.set_cons_succ]
      refine wpAnyH_take (i := 52) (oi := ({ dst := some 105, op := Op.load 27 (Operand.tmp 3), type := 27, pos := "law.go:38", after := #[{ on := 45, ground := Ground.guard }], guard := some (45, true) } : Oper)) (v := ?_) rfl (by kernel_rfl) (by kernel_rfl) (by kernel_rfl) (fun _ _ _ h => h) (Or.inl ⟨by rfl, ?_⟩) (by assumption) ?_
      rotate_left
      · (intro wz hSw; (try dsimp only at hSw); go_simp; try with_reducible rfl)
      simp only [Act.put, List.setIfInBounds_toArray, List.set_cons_zero, List.set_cons_succ]
      refine wpAnyH_take (i := 53) (oi := ({ dst := some 106, op := Op.load 27 (Operand.tmp 4), type := 27, pos := "law.go:38", after := #[{ on := 45, ground := Ground.guard }], guard := some (45, true) } : Oper)) (v := ?_) rfl (by kernel_rfl) (by kernel_rfl) (by kernel_rfl) (fun _ _ _ h => h) (Or.inl ⟨by rfl, ?_⟩) (by assumption) ?_
      rotate_left
      · (intro wz hSw; (try dsimp only at hSw); go_simp; try with_reducible rfl)
      simp only [Act.put, List.setIfInBounds_toArray, List.set_cons_zero, List.set_cons_succ]
      refine wpAnyH_ready (rs := [47]) (by kernel_rfl) (by simp) ?_
      refine AllReadyH.cons (o := ({ dst := some 100, op := Op.call { callee := Callee.value (Operand.func 7), args := #[Operand.tmp 99], argTypes := #[27] }, type := 32, pos := "law.go:38", after := #[{ on := 46, ground := Ground.data }, { on := 45, ground := Ground.chain }, { on := 45, ground := Ground.guard }], guard := some (45, true) } : Oper)) rfl (fun K hK => ?_) AllReadyH.nil
      go_simp
      go_at_call 7
      refine (lift (to_V _ _ _ _ _ _ _) (by assumption) HCL.out).mono ?_
      rintro e v19 ⟨rfl, g19⟩
      clear hHeld g18
      refine hK.out _ _ g19 (fun hHeld => ?_)
      clear hK K
      refine wpAnyH_ready (rs := [49]) (by kernel_rfl) (by simp) ?_
      refine AllReadyH.cons (o := ({ dst := some 102, op := Op.call { callee := Callee.value (Operand.func 7), args := #[Operand.tmp 101], argTypes := #[27] }, type := 32, pos := "law.go:38", after := #[{ on := 48, ground := Ground.data }, { on := 47, ground := Ground.chain }, { on := 45, ground := Ground.guard }], guard := some (45, true) } : Oper)) rfl (fun K hK => ?_) AllReadyH.nil
      go_simp
      go_at_call 7
      refine (lift (to_V _ _ _ _ _ _ _) (by assumption) HCL.out).mono ?_
      rintro e v20 ⟨rfl, g20⟩
      clear hHeld g19
      refine hK.out _ _ g20 (fun hHeld => ?_)
      clear hK K
      refine wpAnyH_ready (rs := [50]) (by kernel_rfl) (by simp) ?_
      refine AllReadyH.cons (o := ({ dst := some 103, op := Op.call { callee := Callee.value (Operand.func 24), args := #[Operand.tmp 100, Operand.tmp 102], argTypes := #[32, 32] }, type := 32, pos := "law.go:38", after := #[{ on := 47, ground := Ground.data }, { on := 49, ground := Ground.data }, { on := 49, ground := Ground.chain }, { on := 45, ground := Ground.guard }], guard := some (45, true) } : Oper)) rfl (fun K hK => ?_) AllReadyH.nil
      go_simp
      go_at_call 24
      refine (lift (w1 _) (by assumption) HCL.out).mono ?_
      rintro e v21 ⟨rfl, g21⟩
      clear hHeld g20
      refine hK.out _ _ g21 (fun hHeld => ?_)
      clear hK K
      refine wpAnyH_ready (rs := [51]) (by kernel_rfl) (by simp) ?_
      refine AllReadyH.cons (o := ({ dst := some 104, op := Op.call { callee := Callee.value (Operand.func 13), args := #[Operand.tmp 103], argTypes := #[32] }, type := 27, pos := "law.go:38", after := #[{ on := 50, ground := Ground.data }, { on := 50, ground := Ground.chain }, { on := 45, ground := Ground.guard }], guard := some (45, true) } : Oper)) rfl (fun K hK => ?_) AllReadyH.nil
      go_simp
      go_at_call 13
      refine (lift (from_V _ _ _ _ _ _ _) (by assumption) HCL.out).mono ?_
      rintro e v22 ⟨rfl, g22⟩
      clear hHeld g21
      refine hK.out _ _ g22 (fun hHeld => ?_)
      clear hK K
      refine wpAnyH_ready (rs := [54]) (by kernel_rfl) (by simp) ?_
      refine AllReadyH.cons (o := ({ dst := some 107, op := Op.call { callee := Callee.value (Operand.func 25), args := #[Operand.tmp 105, Operand.tmp 106], argTypes := #[27, 27] }, type := 27, pos := "law.go:38", after := #[{ on := 52, ground := Ground.data }, { on := 53, ground := Ground.data }, { on := 51, ground := Ground.chain }, { on := 45, ground := Ground.guard }], guard := some (45, true) } : Oper)) rfl (fun K hK => ?_) AllReadyH.nil
      go_simp
      go_at_call 25
      refine (lift (w2 _) (by assumption) HCL.out).mono ?_
      rintro e v23 ⟨rfl, g23⟩
      clear hHeld g22
      refine hK.out _ _ g23 (fun hHeld => ?_)
      clear hK K
      refine wpAnyH_take (i := 55) (oi := ({ dst := some 108, op := Op.binOp BinOp.eql 27 (Operand.tmp 104) (Operand.tmp 107) 27, type := 4, pos := "law.go:38", after := #[{ on := 51, ground := Ground.data }, { on := 54, ground := Ground.data }, { on := 45, ground := Ground.guard }], guard := some (45, true) } : Oper)) (v := ?_) rfl (by kernel_rfl) (by kernel_rfl) (by kernel_rfl) (fun _ _ _ h => h) (Or.inl ⟨by rfl, ?_⟩) (by assumption) ?_
      rotate_left
      · (intro wz hSw; (try dsimp only at hSw); go_simp; try with_reducible rfl)
      simp only [Act.put, List.setIfInBounds_toArray, List.set_cons_zero, List.set_cons_succ]
      refine wpAnyH_take (i := 56) (oi := ({ dst := some 109, op := Op.pick (Operand.tmp 98) (Operand.tmp 108) (Operand.const (Value.bool false)), type := 4, pos := "law.go:38", after := #[{ on := 45, ground := Ground.data }, { on := 55, ground := Ground.data }], guard := none } : Oper)) (v := ?_) rfl (by kernel_rfl) (by kernel_rfl) (by kernel_rfl) (fun _ _ _ h => h) (Or.inl ⟨by rfl, ?_⟩) (by assumption) ?_
      rotate_left
      · (intro wz hSw; (try dsimp only at hSw); go_simp; try with_reducible rfl)
      simp only [Act.put, List.setIfInBounds_toArray, List.set_cons_zero, List.set_cons_succ]
      refine wpAnyH_take (i := 57) (oi := ({ dst := some 6, op := Op.assign (Operand.tmp 109), type := 4, pos := "law.go:38", after := #[{ on := 56, ground := Ground.data }, { on := 54, ground := Ground.chain }, { on := 0, ground := Ground.phase }, { on := 1, ground := Ground.phase }, { on := 2, ground := Ground.phase }, { on := 3, ground := Ground.phase }, { on := 4, ground := Ground.phase }, { on := 5, ground := Ground.phase }, { on := 6, ground := Ground.phase }, { on := 7, ground := Ground.phase }, { on := 8, ground := Ground.phase }, { on := 9, ground := Ground.phase }, { on := 10, ground := Ground.phase }, { on := 11, ground := Ground.phase }, { on := 12, ground := Ground.phase }, { on := 13, ground := Ground.phase }, { on := 14, ground := Ground.phase }, { on := 15, ground := Ground.phase }, { on := 16, ground := Ground.phase }, { on := 17, ground := Ground.phase }, { on := 18, ground := Ground.phase }, { on := 19, ground := Ground.phase }, { on := 20, ground := Ground.phase }, { on := 21, ground := Ground.phase }, { on := 22, ground := Ground.phase }, { on := 23, ground := Ground.phase }, { on := 24, ground := Ground.phase }, { on := 25, ground := Ground.phase }, { on := 26, ground := Ground.phase }, { on := 27, ground := Ground.phase }, { on := 28, ground := Ground.phase }, { on := 29, ground := Ground.phase }, { on := 30, ground := Ground.phase }, { on := 31, ground := Ground.phase }, { on := 32, ground := Ground.phase }, { on := 33, ground := Ground.phase }, { on := 34, ground := Ground.phase }, { on := 35, ground := Ground.phase }, { on := 36, ground := Ground.phase }, { on := 37, ground := Ground.phase }, { on := 38, ground := Ground.phase }, { on := 39, ground := Ground.phase }, { on := 40, ground := Ground.phase }, { on := 41, ground := Ground.phase }, { on := 42, ground := Ground.phase }, { on := 43, ground := Ground.phase }, { on := 44, ground := Ground.phase }, { on := 45, ground := Ground.phase }, { on := 46, ground := Ground.phase }, { on := 47, ground := Ground.phase }, { on := 48, ground := Ground.phase }, { on := 49, ground := Ground.phase }, { on := 50, ground := Ground.phase }, { on := 51, ground := Ground.phase }, { on := 52, ground := Ground.phase }, { on := 53, ground := Ground.phase }, { on := 54, ground := Ground.phase }, { on := 55, ground := Ground.phase }, { on := 56, ground := Ground.phase }], guard := none } : Oper)) (v := ?_) rfl (by kernel_rfl) (by kernel_rfl) (by kernel_rfl) (fun _ _ _ h => h) (Or.inl ⟨by rfl, ?_⟩) (by assumption) ?_
      rotate_left
      · (intro wz hSw; (try dsimp only at hSw); go_simp; try with_reducible rfl)
      simp only [Act.put, List.setIfInBounds_toArray, List.set_cons_zero, List.set_cons_succ]
      refine wpAnyH_done (by kernel_rfl) ?_ _
      have hZ := (g23.2.2.2.2.2.2.2.2.2.2.2.2).out.2.2
      clear hS0 HCL hHeld g23 p1 p2 a1 a2 h1 h2 j1 j2 i1 i2 w1 w2
      go_wp2
      go_ret
      exact ⟨rfl, by rw [← HN.out]; exact hZ⟩
end Go.Proofs.Ytfndahdnbkmkkaa
