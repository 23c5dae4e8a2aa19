import Derived.Test.YthiacdbjlkpfgaaDoorG01
namespace Go.Proofs.YthiacdbjlkpfgaaDoor
open Go.RowKit
/-- a block of a Value that may be written -/
def Rw (w : World) (q : Nat) : Prop := ∃ s k n lo hi p, Br w q s k n lo hi p ∧ Fz w q
theorem Rw.lt {w : World} {q : Nat} (h : Rw w q) : q < w.heap.size := by obtain ⟨_, _, _, _, _, _, h, _⟩ := h; exact h.lt
theorem Rw.keep {w w' : World} {q : Nat} (h : Rw w q) (hb : Below w.heap.size w w') : Rw w' q := by
  obtain ⟨s, k, n, lo, hi, p, h1, h2⟩ := h
  exact ⟨s, k, n, lo, hi, p, h1.keep hb, h2.keep h1.lt hb⟩
theorem Rw.put {w : World} {q : Nat} (h : Rw w q) (s : Int) (k : Bool) (n lo hi p : Int) : Rw (st6 w q (.int .i64 s) (.bool k) (.int .i64 n) (.int .i64 lo) (.int .i64 hi) (.int .i64 p)) q := by
  obtain ⟨s0, k0, n0, lo0, hi0, p0, h1, h2⟩ := h
  exact ⟨s, k, n, lo, hi, p, h1.wrote s k n lo hi p, h2.put _ _ _ _ _ _⟩
theorem Rw.puto {w : World} {q r : Nat} (h : Rw w r) (hq : r ≠ q) (a b c d e f : Value) : Rw (st6 w q a b c d e f) r := by
  obtain ⟨s0, k0, n0, lo0, hi0, p0, h1, h2⟩ := h
  exact ⟨s0, k0, n0, lo0, hi0, p0, h1.put hq _ _ _ _ _ _, h2.put _ _ _ _ _ _⟩
set_option maxRecDepth 100000 in
set_option maxHeartbeats 16000000 in
theorem to_V (s : Int) (k : Bool) (n lo hi p : Int) (w : World) : Calls Tryd.prog 12 #[.agg #[.int .i64 s, .bool k, .int .i64 n, .int .i64 lo, .int .i64 hi, .int .i64 p]] w fun e w' => e = .returned (.agg #[.int .i64 s, .bool k, .int .i64 n, .int .i64 lo, .int .i64 hi, .int .i64 p]) ∧ Below w.heap.size w w' := by
  have x0 : Br ((w.alloc (.cells #[.int .i64 s, .bool k, .int .i64 n, .int .i64 lo, .int .i64 hi, .int .i64 p] 28)).alloc (.cells #[.int .i64 0, .bool false, .int .i64 0, .int .i64 0, .int .i64 0, .int .i64 0] 33)) (w.heap.size) s k n lo hi p := ((Br.new w s k n lo hi p 28)).keep ((Below.refl _ _).alloc (Nat.le_refl _) _)
  have x1 : Br ((w.alloc (.cells #[.int .i64 s, .bool k, .int .i64 n, .int .i64 lo, .int .i64 hi, .int .i64 p] 28)).alloc (.cells #[.int .i64 0, .bool false, .int .i64 0, .int .i64 0, .int .i64 0, .int .i64 0] 33)) (w.heap.size + 1) 0 false 0 0 0 0 := (by simpa using Br.new (w.alloc (.cells #[.int .i64 s, .bool k, .int .i64 n, .int .i64 lo, .int .i64 hi, .int .i64 p] 28)) 0 false 0 0 0 0 33 : Br ((w.alloc (.cells #[.int .i64 s, .bool k, .int .i64 n, .int .i64 lo, .int .i64 hi, .int .i64 p] 28)).alloc (.cells #[.int .i64 0, .bool false, .int .i64 0, .int .i64 0, .int .i64 0, .int .i64 0] 33)) (w.heap.size + 1) 0 false 0 0 0 0)
  have xf : Fz ((w.alloc (.cells #[.int .i64 s, .bool k, .int .i64 n, .int .i64 lo, .int .i64 hi, .int .i64 p] 28)).alloc (.cells #[.int .i64 0, .bool false, .int .i64 0, .int .i64 0, .int .i64 0, .int .i64 0] 33)) (w.heap.size + 1) := by simpa using Fz.new (w.alloc (.cells #[.int .i64 s, .bool k, .int .i64 n, .int .i64 lo, .int .i64 hi, .int .i64 p] 28)) 0 false 0 0 0 0 33
  have xb : Below w.heap.size w ((w.alloc (.cells #[.int .i64 s, .bool k, .int .i64 n, .int .i64 lo, .int .i64 hi, .int .i64 p] 28)).alloc (.cells #[.int .i64 0, .bool false, .int .i64 0, .int .i64 0, .int .i64 0, .int .i64 0] 33)) := (by repeat (first | exact Below.refl _ _ | (refine Below.drew ?_) | (refine below_drewN ?_ _) | (refine Below.setCell ?_ (by first | omega | (simp; done) | (simp; omega)) _) | (refine Below.alloc ?_ (by first | omega | (simp; done) | (simp; omega)) _) | (refine Below.trans ?_ (Below.mono (by assumption) (by first | omega | (simp; done) | (simp; omega))))))
  go_enter Tryd.func12, Tryd.ntmps12
  go_upto_region 1 with fail
  go_name_world W hW
  rw [hW] at x0 x1 xf xb
  clear hW
  obtain ⟨N, hN⟩ : ∃ N, N = w.heap.size := ⟨_, rfl⟩
  rw [← hN] at x0 x1 xf xb ⊢
  have HN : Hid (N = w.heap.size) := hN
  clear hN
  have HCL : Hid (∀ a b : World, (a.cell? ⟨N, 0, none⟩ = some (.int .i64 s) ∧ a.cell? ⟨N, 1, none⟩ = some (.bool k) ∧ a.cell? ⟨N, 2, none⟩ = some (.int .i64 n) ∧ a.cell? ⟨N, 3, none⟩ = some (.int .i64 lo) ∧ a.cell? ⟨N, 4, none⟩ = some (.int .i64 hi) ∧ a.cell? ⟨N, 5, none⟩ = some (.int .i64 p) ∧ Hid (Br a N s k n lo hi p ∧ Rw a (N + 1) ∧ Below N w a)) → Below a.heap.size a b → (b.cell? ⟨N, 0, none⟩ = some (.int .i64 s) ∧ b.cell? ⟨N, 1, none⟩ = some (.bool k) ∧ b.cell? ⟨N, 2, none⟩ = some (.int .i64 n) ∧ b.cell? ⟨N, 3, none⟩ = some (.int .i64 lo) ∧ b.cell? ⟨N, 4, none⟩ = some (.int .i64 hi) ∧ b.cell? ⟨N, 5, none⟩ = some (.int .i64 p) ∧ Hid (Br b N s k n lo hi p ∧ Rw b (N + 1) ∧ Below N w b))) := fun a b h hb => by
    have y := (h.2.2.2.2.2.2).out
    have z : Br b N s k n lo hi p ∧ Rw b (N + 1) ∧ Below N w b := ⟨y.1.keep hb, y.2.1.keep hb, y.2.2.trans (hb.mono (Nat.le_of_lt y.1.lt))⟩
    exact ⟨z.1.c0, z.1.c1, z.1.c2, z.1.c3, z.1.c4, z.1.c5, z⟩
  have z0 : Br W N s k n lo hi p ∧ Rw W (N + 1) ∧ Below N w W := ⟨x0, ⟨_, _, _, _, _, _, x1, xf⟩, xb⟩
  have hS0 : W.cell? ⟨N, 0, none⟩ = some (.int .i64 s) ∧ W.cell? ⟨N, 1, none⟩ = some (.bool k) ∧ W.cell? ⟨N, 2, none⟩ = some (.int .i64 n) ∧ W.cell? ⟨N, 3, none⟩ = some (.int .i64 lo) ∧ W.cell? ⟨N, 4, none⟩ = some (.int .i64 hi) ∧ W.cell? ⟨N, 5, none⟩ = some (.int .i64 p) ∧ Hid (Br W N s k n lo hi p ∧ Rw W (N + 1) ∧ Below N w W) := ⟨z0.1.c0, z0.1.c1, z0.1.c2, z0.1.c3, z0.1.c4, z0.1.c5, z0⟩
  clear x0 x1 xf xb z0
  refine wp_region_held_drew (S := fun w' => w'.cell? ⟨N, 0, none⟩ = some (.int .i64 s) ∧ w'.cell? ⟨N, 1, none⟩ = some (.bool k) ∧ w'.cell? ⟨N, 2, none⟩ = some (.int .i64 n) ∧ w'.cell? ⟨N, 3, none⟩ = some (.int .i64 lo) ∧ w'.cell? ⟨N, 4, none⟩ = some (.int .i64 hi) ∧ w'.cell? ⟨N, 5, none⟩ = some (.int .i64 p) ∧ Hid (Br w' N s k n lo hi p ∧ Rw w' (N + 1) ∧ Below N w w')) (by kernel_rfl) (HCL.out _ _ hS0 ((Below.refl _ _).drew)) (fun hHeld => ?_)
  refine wpAnyH_take (i := 0) (oi := ({ dst := some 3, op := Op.fieldAddr 28 (Operand.tmp 1) 0, type := 0, pos := "law.go:15", after := #[], guard := none } : Oper)) (v := ?_) rfl (by kernel_rfl) (by kernel_rfl) (by kernel_rfl) (fun _ _ _ h => h) (Or.inl ⟨by rfl, ?_⟩) (by assumption) ?_
  rotate_left
  · (intro wz hSw; (try dsimp only at hSw); go_simp; try with_reducible rfl)
  simp only [Act.put, List.setIfInBounds_toArray, List.set_cons_zero, List.set_cons_succ]
  refine wpAnyH_take (i := 1) (oi := ({ dst := some 4, op := Op.load 3 (Operand.tmp 3), type := 3, pos := "law.go:15", after := #[{ on := 0, ground := Ground.data }], guard := none } : Oper)) (v := ?_) rfl (by kernel_rfl) (by kernel_rfl) (by kernel_rfl) (fun _ _ _ h => h) (Or.inl ⟨by rfl, ?_⟩) (by assumption) ?_
  rotate_left
  · (intro wz hSw; (try dsimp only at hSw); go_simp; try with_reducible rfl)
  simp only [Act.put, List.setIfInBounds_toArray, List.set_cons_zero, List.set_cons_succ]
  refine wpAnyH_take (i := 2) (oi := ({ dst := some 5, op := Op.fieldAddr 28 (Operand.tmp 1) 1, type := 0, pos := "law.go:15", after := #[], guard := none } : Oper)) (v := ?_) rfl (by kernel_rfl) (by kernel_rfl) (by kernel_rfl) (fun _ _ _ h => h) (Or.inl ⟨by rfl, ?_⟩) (by assumption) ?_
  rotate_left
  · (intro wz hSw; (try dsimp only at hSw); go_simp; try with_reducible rfl)
  simp only [Act.put, List.setIfInBounds_toArray, List.set_cons_zero, List.set_cons_succ]
  refine wpAnyH_take (i := 3) (oi := ({ dst := some 6, op := Op.load 24 (Operand.tmp 5), type := 24, pos := "law.go:15", after := #[{ on := 2, ground := Ground.data }], guard := none } : Oper)) (v := ?_) rfl (by kernel_rfl) (by kernel_rfl) (by kernel_rfl) (fun _ _ _ h => h) (Or.inl ⟨by rfl, ?_⟩) (by assumption) ?_
  rotate_left
  · (intro wz hSw; (try dsimp only at hSw); go_simp; try with_reducible rfl)
  simp only [Act.put, List.setIfInBounds_toArray, List.set_cons_zero, List.set_cons_succ]
  refine wpAnyH_take (i := 5) (oi := ({ dst := some 8, op := Op.fieldAddr 28 (Operand.tmp 1) 2, type := 0, pos := "law.go:15", after := #[], guard := none } : Oper)) (v := ?_) rfl (by kernel_rfl) (by kernel_rfl) (by kernel_rfl) (fun _ _ _ h => h) (Or.inl ⟨by rfl, ?_⟩) (by assumption) ?_
  rotate_left
  · (intro wz hSw; (try dsimp only at hSw); go_simp; try with_reducible rfl)
  simp only [Act.put, List.setIfInBounds_toArray, List.set_cons_zero, List.set_cons_succ]
  refine wpAnyH_take (i := 6) (oi := ({ dst := some 9, op := Op.load 26 (Operand.tmp 8), type := 26, pos := "law.go:15", after := #[{ on := 5, ground := Ground.data }], guard := none } : Oper)) (v := ?_) rfl (by kernel_rfl) (by kernel_rfl) (by kernel_rfl) (fun _ _ _ h => h) (Or.inl ⟨by rfl, ?_⟩) (by assumption) ?_
  rotate_left
  · (intro wz hSw; (try dsimp only at hSw); go_simp; try with_reducible rfl)
  simp only [Act.put, List.setIfInBounds_toArray, List.set_cons_zero, List.set_cons_succ]
  refine wpAnyH_take (i := 8) (oi := ({ dst := some 11, op := Op.fieldAddr 28 (Operand.tmp 1) 3, type := 0, pos := "law.go:15", after := #[], guard := none } : Oper)) (v := ?_) rfl (by kernel_rfl) (by kernel_rfl) (by kernel_rfl) (fun _ _ _ h => h) (Or.inl ⟨by rfl, ?_⟩) (by assumption) ?_
  rotate_left
  · (intro wz hSw; (try dsimp only at hSw); go_simp; try with_reducible rfl)
  simp only [Act.put, List.setIfInBounds_toArray, List.set_cons_zero, List.set_cons_succ]
  refine wpAnyH_take (i := 9) (oi := ({ dst := some 12, op := Op.load 3 (Operand.tmp 11), type := 3, pos := "law.go:15", after := #[{ on := 8, ground := Ground.data }], guard := none } : Oper)) (v := ?_) rfl (by kernel_rfl) (by kernel_rfl) (by kernel_rfl) (fun _ _ _ h => h) (Or.inl ⟨by rfl, ?_⟩) (by assumption) ?_
  rotate_left
  · (intro wz hSw; (try dsimp only at hSw); go_simp; try with_reducible rfl)
  simp only [Act.put, List.setIfInBounds_toArray, List.set_cons_zero, List.set_cons_succ]
  refine wpAnyH_ready (rs := [4]) (by kernel_rfl) (by simp) ?_
  refine AllReadyH.cons (o := ({ dst := some 7, op := Op.call { callee := Callee.value (Operand.func 37), args := #[Operand.tmp 6], argTypes := #[24] }, type := 30, pos := "law.go:15", after := #[{ on := 3, ground := Ground.data }], guard := none } : Oper)) rfl (fun K hK => ?_) AllReadyH.nil
  go_simp
  go_at_call 37
  refine (lift (bel2 (kto_any _ _ _)) (by assumption) HCL.out).mono ?_
  rintro e v1 ⟨rfl, g1⟩
  refine hK.out _ _ g1 (fun hHeld => ?_)
  clear hK K
  refine wpAnyH_ready (rs := [7]) (by kernel_rfl) (by simp) ?_
  refine AllReadyH.cons (o := ({ dst := some 10, op := Op.call { callee := Callee.value (Operand.func 38), args := #[Operand.tmp 9], argTypes := #[26] }, type := 31, pos := "law.go:15", after := #[{ on := 6, ground := Ground.data }, { on := 4, ground := Ground.chain }], guard := none } : Oper)) rfl (fun K hK => ?_) AllReadyH.nil
  go_simp
  go_at_call 38
  refine (lift (bel2 (nto_any _ _ _)) (by assumption) HCL.out).mono ?_
  rintro e v2 ⟨rfl, g2⟩
  refine hK.out _ _ g2 (fun hHeld => ?_)
  clear hK K
  refine wpAnyH_take (i := 10) (oi := ({ dst := some 13, op := Op.build 33 #[(0, Operand.tmp 4), (1, Operand.tmp 7), (2, Operand.tmp 10), (3, Operand.tmp 12)], type := 33, pos := "law.go:15", after := #[{ on := 1, ground := Ground.data }, { on := 4, ground := Ground.data }, { on := 7, ground := Ground.data }, { on := 9, ground := Ground.data }], guard := none } : Oper)) (v := ?_) rfl (by kernel_rfl) (by kernel_rfl) (by kernel_rfl) (fun _ _ _ h => h) (Or.inl ⟨by rfl, ?_⟩) (by assumption) ?_
  rotate_left
  · (intro wz hSw; (try dsimp only at hSw); go_simp; try with_reducible rfl)
  simp only [Act.put, List.setIfInBounds_toArray, List.set_cons_zero, List.set_cons_succ]
  refine wpAnyH_ready (rs := [11]) (by kernel_rfl) (by simp) ?_
  refine AllReadyH.cons (o := ({ dst := none, op := Op.store 33 (Operand.tmp 2) (Operand.tmp 13), type := 0, pos := "law.go:15", after := #[{ on := 10, ground := Ground.data }, { on := 7, ground := Ground.chain }, { on := 0, ground := Ground.phase }, { on := 1, ground := Ground.phase }, { on := 2, ground := Ground.phase }, { on := 3, ground := Ground.phase }, { on := 4, ground := Ground.phase }, { on := 5, ground := Ground.phase }, { on := 6, ground := Ground.phase }, { on := 7, ground := Ground.phase }, { on := 8, ground := Ground.phase }, { on := 9, ground := Ground.phase }, { on := 10, ground := Ground.phase }], guard := none } : Oper)) rfl (fun K hK => ?_) AllReadyH.nil
  have zz := (hHeld.2.2.2.2.2.2).out
  obtain ⟨s9, k9, n9, lo9, hi9, p9, zb, zf⟩ := zz.2.1
  have zc0 := zb.c0
  have zf0 := zf.f0
  have zc1 := zb.c1
  have zf1 := zf.f1
  have zc2 := zb.c2
  have zf2 := zf.f2
  have zc3 := zb.c3
  have zf3 := zf.f3
  have zc4 := zb.c4
  have zf4 := zf.f4
  have zc5 := zb.c5
  have zf5 := zf.f5
  go_simp
  have zw := zb.wrote s k n lo hi p
  have zi : Br (st6 v2 (N + 1) (.int .i64 s) (.bool k) (.int .i64 n) (.int .i64 lo) (.int .i64 hi) (.int .i64 p)) N s k n lo hi p ∧ Rw (st6 v2 (N + 1) (.int .i64 s) (.bool k) (.int .i64 n) (.int .i64 lo) (.int .i64 hi) (.int .i64 p)) (N + 1) ∧ Below N w (st6 v2 (N + 1) (.int .i64 s) (.bool k) (.int .i64 n) (.int .i64 lo) (.int .i64 hi) (.int .i64 p)) := ⟨zz.1.put (by omega) _ _ _ _ _ _, zz.2.1.put s k n lo hi p, st6_below zz.2.2 _ (by omega) _ _ _ _ _ _⟩
  refine hK.out _ _ ⟨zi.1.c0, zi.1.c1, zi.1.c2, zi.1.c3, zi.1.c4, zi.1.c5, zi⟩ (fun _ => ?_)
  clear hK K zc0 zf0 zc1 zf1 zc2 zf2 zc3 zf3 zc4 zf4 zc5 zf5
  refine wpAnyH_done (by kernel_rfl) ?_ _
  clear hS0 HCL hHeld g1 g2
  have c0 := zw.c0
  have c1 := zw.c1
  have c2 := zw.c2
  have c3 := zw.c3
  have c4 := zw.c4
  have c5 := zw.c5
  have hB := zi.2.2
  clear zi zw zb zf zz
  go_wp2_with fail
  refine bodyPost_ret (by simp [results, Tryd.results12, go_sem, *]; try rfl) rfl ⟨?_, by rw [← HN.out]; exact hB⟩
  rfl
end Go.Proofs.YthiacdbjlkpfgaaDoor
namespace Go.Proofs.YthiacdbjlkpfgaaDoor
open Go.RowKit
theorem Br.known {w : World} {q : Nat} {s : Int} {k : Bool} {n lo hi p : Int} (h : Br w q s k n lo hi p) (k' : Bool) (n' : Int) : Br ((w.setCell ⟨q, 1, none⟩ (.bool k')).setCell ⟨q, 2, none⟩ (.int .i64 n')) q s k' n' lo hi p := by
  have c0 := h.c0
  have c1 := h.c1
  have c2 := h.c2
  have c3 := h.c3
  have c4 := h.c4
  have c5 := h.c5
  refine ⟨?_, ?_, ?_, ?_, ?_, ?_⟩ <;> simp [go_sem, *]
theorem Br.span {w : World} {q : Nat} {s : Int} {k : Bool} {n lo hi p : Int} (h : Br w q s k n lo hi p) (lo' hi' : Int) : Br ((w.setCell ⟨q, 3, none⟩ (.int .i64 lo')).setCell ⟨q, 4, none⟩ (.int .i64 hi')) q s k n lo' hi' p := by
  have c0 := h.c0
  have c1 := h.c1
  have c2 := h.c2
  have c3 := h.c3
  have c4 := h.c4
  have c5 := h.c5
  refine ⟨?_, ?_, ?_, ?_, ?_, ?_⟩ <;> simp [go_sem, *]
theorem Br.two {w : World} {q r : Nat} {s : Int} {k : Bool} {n lo hi p : Int} (h : Br w r s k n lo hi p) (hq : r ≠ q) (i j : Nat) (u v : Value) : Br ((w.setCell ⟨q, i, none⟩ u).setCell ⟨q, j, none⟩ v) r s k n lo hi p := by
  have ne : ∀ o i : Nat, (⟨q, i, none⟩ : Addr) ≠ ⟨r, o, none⟩ := fun o i t => hq (congrArg Addr.block t).symm
  exact ⟨(World.cell?_setCell_other _ _ _ _ (ne 0 j)).trans ((World.cell?_setCell_other _ _ _ _ (ne 0 i)).trans h.c0), (World.cell?_setCell_other _ _ _ _ (ne 1 j)).trans ((World.cell?_setCell_other _ _ _ _ (ne 1 i)).trans h.c1), (World.cell?_setCell_other _ _ _ _ (ne 2 j)).trans ((World.cell?_setCell_other _ _ _ _ (ne 2 i)).trans h.c2), (World.cell?_setCell_other _ _ _ _ (ne 3 j)).trans ((World.cell?_setCell_other _ _ _ _ (ne 3 i)).trans h.c3), (World.cell?_setCell_other _ _ _ _ (ne 4 j)).trans ((World.cell?_setCell_other _ _ _ _ (ne 4 i)).trans h.c4), (World.cell?_setCell_other _ _ _ _ (ne 5 j)).trans ((World.cell?_setCell_other _ _ _ _ (ne 5 i)).trans h.c5)⟩
theorem Fz.two {w : World} {q r : Nat} (h : Fz w r) (i j : Nat) (u v : Value) : Fz ((w.setCell ⟨q, i, none⟩ u).setCell ⟨q, j, none⟩ v) r := by
  have f0 := h.f0
  have f1 := h.f1
  have f2 := h.f2
  have f3 := h.f3
  have f4 := h.f4
  have f5 := h.f5
  refine ⟨?_, ?_, ?_, ?_, ?_, ?_⟩ <;> simp [*]
theorem two_below {N : Nat} {w0 w : World} (h : Below N w0 w) (q i j : Nat) (hq : N ≤ q) (u v : Value) : Below N w0 ((w.setCell ⟨q, i, none⟩ u).setCell ⟨q, j, none⟩ v) :=
  (h.setCell (p := ⟨q, i, none⟩) hq u).setCell (p := ⟨q, j, none⟩) hq v
end Go.Proofs.YthiacdbjlkpfgaaDoor
namespace Go.Proofs.YthiacdbjlkpfgaaDoor
open Go.RowKit
def someV (x : V) (is : Bool) : V × Bool := if is = true ∧ x.s ≠ 0 ∧ x.p ≠ 0 then (x, true) else (zeroV, false)
set_option maxRecDepth 100000 in
set_option maxHeartbeats 16000000 in
theorem some_V (x : V) (is : Bool) (w : World) : Calls Tryd.prog 21 #[.agg #[.int .i64 (up x.s), .bool x.k, .int .i64 x.n, .int .i64 x.lo, .int .i64 x.hi, .int .i64 (up x.p)], .bool is] w fun e w' => e = .returned (.tuple #[.agg #[.int .i64 (up (someV x is).1.s), .bool (someV x is).1.k, .int .i64 (someV x is).1.n, .int .i64 (someV x is).1.lo, .int .i64 (someV x is).1.hi, .int .i64 (up (someV x is).1.p)], .bool (someV x is).2]) ∧ Below w.heap.size w w' := by
  cases is
  · have HR : Hid (someV x false = (zeroV, false)) := by unfold Hid someV; rw [if_neg (by simp)]
    generalize someV x false = r at *
    have x0 : Br ((w.alloc (.cells #[.int .i64 (up x.s), .bool x.k, .int .i64 x.n, .int .i64 x.lo, .int .i64 x.hi, .int .i64 (up x.p)] 33)).alloc (.cells #[.int .i64 0, .bool false, .int .i64 0, .int .i64 0, .int .i64 0, .int .i64 0] 33)) (w.heap.size) (up x.s) x.k x.n x.lo x.hi (up x.p) := ((Br.new w (up x.s) x.k x.n x.lo x.hi (up x.p) 33)).keep ((Below.refl _ _).alloc (Nat.le_refl _) _)
    have x1 : Br ((w.alloc (.cells #[.int .i64 (up x.s), .bool x.k, .int .i64 x.n, .int .i64 x.lo, .int .i64 x.hi, .int .i64 (up x.p)] 33)).alloc (.cells #[.int .i64 0, .bool false, .int .i64 0, .int .i64 0, .int .i64 0, .int .i64 0] 33)) (w.heap.size + 1) 0 false 0 0 0 0 := (by simpa using Br.new (w.alloc (.cells #[.int .i64 (up x.s), .bool x.k, .int .i64 x.n, .int .i64 x.lo, .int .i64 x.hi, .int .i64 (up x.p)] 33)) 0 false 0 0 0 0 33 : Br ((w.alloc (.cells #[.int .i64 (up x.s), .bool x.k, .int .i64 x.n, .int .i64 x.lo, .int .i64 x.hi, .int .i64 (up x.p)] 33)).alloc (.cells #[.int .i64 0, .bool false, .int .i64 0, .int .i64 0, .int .i64 0, .int .i64 0] 33)) (w.heap.size + 1) 0 false 0 0 0 0)
    have xf : Fz ((w.alloc (.cells #[.int .i64 (up x.s), .bool x.k, .int .i64 x.n, .int .i64 x.lo, .int .i64 x.hi, .int .i64 (up x.p)] 33)).alloc (.cells #[.int .i64 0, .bool false, .int .i64 0, .int .i64 0, .int .i64 0, .int .i64 0] 33)) (w.heap.size + 1) := by simpa using Fz.new (w.alloc (.cells #[.int .i64 (up x.s), .bool x.k, .int .i64 x.n, .int .i64 x.lo, .int .i64 x.hi, .int .i64 (up x.p)] 33)) 0 false 0 0 0 0 33
    have xb : Below w.heap.size w ((w.alloc (.cells #[.int .i64 (up x.s), .bool x.k, .int .i64 x.n, .int .i64 x.lo, .int .i64 x.hi, .int .i64 (up x.p)] 33)).alloc (.cells #[.int .i64 0, .bool false, .int .i64 0, .int .i64 0, .int .i64 0, .int .i64 0] 33)) := (by repeat (first | exact Below.refl _ _ | (refine Below.drew ?_) | (refine below_drewN ?_ _) | (refine Below.setCell ?_ (by first | omega | (simp; done) | (simp; omega)) _) | (refine Below.alloc ?_ (by first | omega | (simp; done) | (simp; omega)) _) | (refine Below.trans ?_ (Below.mono (by assumption) (by first | omega | (simp; done) | (simp; omega))))))
    go_enter Tryd.func21, Tryd.ntmps21
    go_upto_region 1 with fail
    go_name_world W hW
    rw [hW] at x0 x1 xf xb
    clear hW
    obtain ⟨N, hN⟩ : ∃ N, N = w.heap.size := ⟨_, rfl⟩
    rw [← hN] at x0 x1 xf xb ⊢
    have HN : Hid (N = w.heap.size) := hN
    clear hN
    have HA := hide (And.intro x0 (And.intro x1 (And.intro xf xb)))
    clear x0 x1 xf xb
    have a0 := HA.out.1.c0
    have a1 := HA.out.1.c1
    have a2 := HA.out.1.c2
    have a3 := HA.out.1.c3
    have a4 := HA.out.1.c4
    have a5 := HA.out.1.c5
    have b0 := HA.out.2.1.c0
    have b1 := HA.out.2.1.c1
    have b2 := HA.out.2.1.c2
    have b3 := HA.out.2.1.c3
    have b4 := HA.out.2.1.c4
    have b5 := HA.out.2.1.c5
    have f0 := HA.out.2.2.1.f0
    have f1 := HA.out.2.2.1.f1
    have f2 := HA.out.2.2.1.f2
    have f3 := HA.out.2.2.1.f3
    have f4 := HA.out.2.2.1.f4
    have f5 := HA.out.2.2.1.f5
    go_wp2_with fail
    have zw := HA.out.2.1.wrote 0 false 0 0 0 0
    have hZ := st6_below HA.out.2.2.2 (N + 1) (Nat.le_succ _) (.int .i64 0) (.bool false) (.int .i64 0) (.int .i64 0) (.int .i64 0) (.int .i64 0)
    clear HA a0 a1 a2 a3 a4 a5 b0 b1 b2 b3 b4 b5 f0 f1 f2 f3 f4 f5
    have a0 := zw.c0
    have a1 := zw.c1
    have a2 := zw.c2
    have a3 := zw.c3
    have a4 := zw.c4
    have a5 := zw.c5
    clear zw
    refine bodyPost_ret (by simp [results, Tryd.results21, go_sem, *]; try rfl) rfl ⟨?_, by rw [← HN.out]; exact hZ⟩
    rw [HR.out] <;> rfl
  · by_cases hs : x.s = 0
    · have HR : Hid (someV x true = (zeroV, false)) := by unfold Hid someV; rw [if_neg (fun t => t.2.1 hs)]
      generalize someV x true = r at *
      have d1 : (up x.s == 0) = true := by rw [show (0 : Int) = up 0 from rfl, up_beq, beq_iff_eq]; exact hs
      clear hs
      have x0 : Br ((w.alloc (.cells #[.int .i64 (up x.s), .bool x.k, .int .i64 x.n, .int .i64 x.lo, .int .i64 x.hi, .int .i64 (up x.p)] 33)).alloc (.cells #[.int .i64 0, .bool false, .int .i64 0, .int .i64 0, .int .i64 0, .int .i64 0] 33)) (w.heap.size) (up x.s) x.k x.n x.lo x.hi (up x.p) := ((Br.new w (up x.s) x.k x.n x.lo x.hi (up x.p) 33)).keep ((Below.refl _ _).alloc (Nat.le_refl _) _)
      have x1 : Br ((w.alloc (.cells #[.int .i64 (up x.s), .bool x.k, .int .i64 x.n, .int .i64 x.lo, .int .i64 x.hi, .int .i64 (up x.p)] 33)).alloc (.cells #[.int .i64 0, .bool false, .int .i64 0, .int .i64 0, .int .i64 0, .int .i64 0] 33)) (w.heap.size + 1) 0 false 0 0 0 0 := (by simpa using Br.new (w.alloc (.cells #[.int .i64 (up x.s), .bool x.k, .int .i64 x.n, .int .i64 x.lo, .int .i64 x.hi, .int .i64 (up x.p)] 33)) 0 false 0 0 0 0 33 : Br ((w.alloc (.cells #[.int .i64 (up x.s), .bool x.k, .int .i64 x.n, .int .i64 x.lo, .int .i64 x.hi, .int .i64 (up x.p)] 33)).alloc (.cells #[.int .i64 0, .bool false, .int .i64 0, .int .i64 0, .int .i64 0, .int .i64 0] 33)) (w.heap.size + 1) 0 false 0 0 0 0)
      have xf : Fz ((w.alloc (.cells #[.int .i64 (up x.s), .bool x.k, .int .i64 x.n, .int .i64 x.lo, .int .i64 x.hi, .int .i64 (up x.p)] 33)).alloc (.cells #[.int .i64 0, .bool false, .int .i64 0, .int .i64 0, .int .i64 0, .int .i64 0] 33)) (w.heap.size + 1) := by simpa using Fz.new (w.alloc (.cells #[.int .i64 (up x.s), .bool x.k, .int .i64 x.n, .int .i64 x.lo, .int .i64 x.hi, .int .i64 (up x.p)] 33)) 0 false 0 0 0 0 33
      have xb : Below w.heap.size w ((w.alloc (.cells #[.int .i64 (up x.s), .bool x.k, .int .i64 x.n, .int .i64 x.lo, .int .i64 x.hi, .int .i64 (up x.p)] 33)).alloc (.cells #[.int .i64 0, .bool false, .int .i64 0, .int .i64 0, .int .i64 0, .int .i64 0] 33)) := (by repeat (first | exact Below.refl _ _ | (refine Below.drew ?_) | (refine below_drewN ?_ _) | (refine Below.setCell ?_ (by first | omega | (simp; done) | (simp; omega)) _) | (refine Below.alloc ?_ (by first | omega | (simp; done) | (simp; omega)) _) | (refine Below.trans ?_ (Below.mono (by assumption) (by first | omega | (simp; done) | (simp; omega))))))
      go_enter Tryd.func21, Tryd.ntmps21
      go_upto_region 1 with fail
      go_name_world W hW
      rw [hW] at x0 x1 xf xb
      clear hW
      obtain ⟨N, hN⟩ : ∃ N, N = w.heap.size := ⟨_, rfl⟩
      rw [← hN] at x0 x1 xf xb ⊢
      have HN : Hid (N = w.heap.size) := hN
      clear hN
      have HA := hide (And.intro x0 (And.intro x1 (And.intro xf xb)))
      clear x0 x1 xf xb
      have a0 := HA.out.1.c0
      have a1 := HA.out.1.c1
      have a2 := HA.out.1.c2
      have a3 := HA.out.1.c3
      have a4 := HA.out.1.c4
      have a5 := HA.out.1.c5
      have b0 := HA.out.2.1.c0
      have b1 := HA.out.2.1.c1
      have b2 := HA.out.2.1.c2
      have b3 := HA.out.2.1.c3
      have b4 := HA.out.2.1.c4
      have b5 := HA.out.2.1.c5
      have f0 := HA.out.2.2.1.f0
      have f1 := HA.out.2.2.1.f1
      have f2 := HA.out.2.2.1.f2
      have f3 := HA.out.2.2.1.f3
      have f4 := HA.out.2.2.1.f4
      have f5 := HA.out.2.2.1.f5
      go_wp2_with fail
      have zw := HA.out.2.1.wrote 0 false 0 0 0 0
      have hZ := st6_below HA.out.2.2.2 (N + 1) (Nat.le_succ _) (.int .i64 0) (.bool false) (.int .i64 0) (.int .i64 0) (.int .i64 0) (.int .i64 0)
      clear HA a0 a1 a2 a3 a4 a5 b0 b1 b2 b3 b4 b5 f0 f1 f2 f3 f4 f5
      have a0 := zw.c0
      have a1 := zw.c1
      have a2 := zw.c2
      have a3 := zw.c3
      have a4 := zw.c4
      have a5 := zw.c5
      clear zw
      refine bodyPost_ret (by simp [results, Tryd.results21, go_sem, *]; try rfl) rfl ⟨?_, by rw [← HN.out]; exact hZ⟩
      rw [HR.out] <;> rfl
    · by_cases hp : x.p = 0
      · have HR : Hid (someV x true = (zeroV, false)) := by unfold Hid someV; rw [if_neg (fun t => t.2.2 hp)]
        generalize someV x true = r at *
        have d1 : (up x.s == 0) = false := by rw [show (0 : Int) = up 0 from rfl, up_beq, beq_eq_false_iff_ne]; exact hs
        have d2 : (up x.p == 0) = true := by rw [show (0 : Int) = up 0 from rfl, up_beq, beq_iff_eq]; exact hp
        clear hs hp
        have x0 : Br ((w.alloc (.cells #[.int .i64 (up x.s), .bool x.k, .int .i64 x.n, .int .i64 x.lo, .int .i64 x.hi, .int .i64 (up x.p)] 33)).alloc (.cells #[.int .i64 0, .bool false, .int .i64 0, .int .i64 0, .int .i64 0, .int .i64 0] 33)) (w.heap.size) (up x.s) x.k x.n x.lo x.hi (up x.p) := ((Br.new w (up x.s) x.k x.n x.lo x.hi (up x.p) 33)).keep ((Below.refl _ _).alloc (Nat.le_refl _) _)
        have x1 : Br ((w.alloc (.cells #[.int .i64 (up x.s), .bool x.k, .int .i64 x.n, .int .i64 x.lo, .int .i64 x.hi, .int .i64 (up x.p)] 33)).alloc (.cells #[.int .i64 0, .bool false, .int .i64 0, .int .i64 0, .int .i64 0, .int .i64 0] 33)) (w.heap.size + 1) 0 false 0 0 0 0 := (by simpa using Br.new (w.alloc (.cells #[.int .i64 (up x.s), .bool x.k, .int .i64 x.n, .int .i64 x.lo, .int .i64 x.hi, .int .i64 (up x.p)] 33)) 0 false 0 0 0 0 33 : Br ((w.alloc (.cells #[.int .i64 (up x.s), .bool x.k, .int .i64 x.n, .int .i64 x.lo, .int .i64 x.hi, .int .i64 (up x.p)] 33)).alloc (.cells #[.int .i64 0, .bool false, .int .i64 0, .int .i64 0, .int .i64 0, .int .i64 0] 33)) (w.heap.size + 1) 0 false 0 0 0 0)
        have xf : Fz ((w.alloc (.cells #[.int .i64 (up x.s), .bool x.k, .int .i64 x.n, .int .i64 x.lo, .int .i64 x.hi, .int .i64 (up x.p)] 33)).alloc (.cells #[.int .i64 0, .bool false, .int .i64 0, .int .i64 0, .int .i64 0, .int .i64 0] 33)) (w.heap.size + 1) := by simpa using Fz.new (w.alloc (.cells #[.int .i64 (up x.s), .bool x.k, .int .i64 x.n, .int .i64 x.lo, .int .i64 x.hi, .int .i64 (up x.p)] 33)) 0 false 0 0 0 0 33
        have xb : Below w.heap.size w ((w.alloc (.cells #[.int .i64 (up x.s), .bool x.k, .int .i64 x.n, .int .i64 x.lo, .int .i64 x.hi, .int .i64 (up x.p)] 33)).alloc (.cells #[.int .i64 0, .bool false, .int .i64 0, .int .i64 0, .int .i64 0, .int .i64 0] 33)) := (by repeat (first | exact Below.refl _ _ | (refine Below.drew ?_) | (refine below_drewN ?_ _) | (refine Below.setCell ?_ (by first | omega | (simp; done) | (simp; omega)) _) | (refine Below.alloc ?_ (by first | omega | (simp; done) | (simp; omega)) _) | (refine Below.trans ?_ (Below.mono (by assumption) (by first | omega | (simp; done) | (simp; omega))))))
        go_enter Tryd.func21, Tryd.ntmps21
        go_upto_region 1 with fail
        go_name_world W hW
        rw [hW] at x0 x1 xf xb
        clear hW
        obtain ⟨N, hN⟩ : ∃ N, N = w.heap.size := ⟨_, rfl⟩
        rw [← hN] at x0 x1 xf xb ⊢
        have HN : Hid (N = w.heap.size) := hN
        clear hN
        have HA := hide (And.intro x0 (And.intro x1 (And.intro xf xb)))
        clear x0 x1 xf xb
        have a0 := HA.out.1.c0
        have a1 := HA.out.1.c1
        have a2 := HA.out.1.c2
        have a3 := HA.out.1.c3
        have a4 := HA.out.1.c4
        have a5 := HA.out.1.c5
        have b0 := HA.out.2.1.c0
        have b1 := HA.out.2.1.c1
        have b2 := HA.out.2.1.c2
        have b3 := HA.out.2.1.c3
        have b4 := HA.out.2.1.c4
        have b5 := HA.out.2.1.c5
        have f0 := HA.out.2.2.1.f0
        have f1 := HA.out.2.2.1.f1
        have f2 := HA.out.2.2.1.f2
        have f3 := HA.out.2.2.1.f3
        have f4 := HA.out.2.2.1.f4
        have f5 := HA.out.2.2.1.f5
        go_wp2_with fail
        have zw := HA.out.2.1.wrote 0 false 0 0 0 0
        have hZ := st6_below HA.out.2.2.2 (N + 1) (Nat.le_succ _) (.int .i64 0) (.bool false) (.int .i64 0) (.int .i64 0) (.int .i64 0) (.int .i64 0)
        clear HA a0 a1 a2 a3 a4 a5 b0 b1 b2 b3 b4 b5 f0 f1 f2 f3 f4 f5
        have a0 := zw.c0
        have a1 := zw.c1
        have a2 := zw.c2
        have a3 := zw.c3
        have a4 := zw.c4
        have a5 := zw.c5
        clear zw
        refine bodyPost_ret (by simp [results, Tryd.results21, go_sem, *]; try rfl) rfl ⟨?_, by rw [← HN.out]; exact hZ⟩
        rw [HR.out] <;> rfl
      · have HR : Hid (someV x true = (x, true)) := by unfold Hid someV; rw [if_pos ⟨rfl, hs, hp⟩]
        generalize someV x true = r at *
        have d1 : (up x.s == 0) = false := by rw [show (0 : Int) = up 0 from rfl, up_beq, beq_eq_false_iff_ne]; exact hs
        have d2 : (up x.p == 0) = false := by rw [show (0 : Int) = up 0 from rfl, up_beq, beq_eq_false_iff_ne]; exact hp
        clear hs hp
        have x0 : Br ((w.alloc (.cells #[.int .i64 (up x.s), .bool x.k, .int .i64 x.n, .int .i64 x.lo, .int .i64 x.hi, .int .i64 (up x.p)] 33)).alloc (.cells #[.int .i64 0, .bool false, .int .i64 0, .int .i64 0, .int .i64 0, .int .i64 0] 33)) (w.heap.size) (up x.s) x.k x.n x.lo x.hi (up x.p) := ((Br.new w (up x.s) x.k x.n x.lo x.hi (up x.p) 33)).keep ((Below.refl _ _).alloc (Nat.le_refl _) _)
        have x1 : Br ((w.alloc (.cells #[.int .i64 (up x.s), .bool x.k, .int .i64 x.n, .int .i64 x.lo, .int .i64 x.hi, .int .i64 (up x.p)] 33)).alloc (.cells #[.int .i64 0, .bool false, .int .i64 0, .int .i64 0, .int .i64 0, .int .i64 0] 33)) (w.heap.size + 1) 0 false 0 0 0 0 := (by simpa using Br.new (w.alloc (.cells #[.int .i64 (up x.s), .bool x.k, .int .i64 x.n, .int .i64 x.lo, .int .i64 x.hi, .int .i64 (up x.p)] 33)) 0 false 0 0 0 0 33 : Br ((w.alloc (.cells #[.int .i64 (up x.s), .bool x.k, .int .i64 x.n, .int .i64 x.lo, .int .i64 x.hi, .int .i64 (up x.p)] 33)).alloc (.cells #[.int .i64 0, .bool false, .int .i64 0, .int .i64 0, .int .i64 0, .int .i64 0] 33)) (w.heap.size + 1) 0 false 0 0 0 0)
        have xf : Fz ((w.alloc (.cells #[.int .i64 (up x.s), .bool x.k, .int .i64 x.n, .int .i64 x.lo, .int .i64 x.hi, .int .i64 (up x.p)] 33)).alloc (.cells #[.int .i64 0, .bool false, .int .i64 0, .int .i64 0, .int .i64 0, .int .i64 0] 33)) (w.heap.size + 1) := by simpa using Fz.new (w.alloc (.cells #[.int .i64 (up x.s), .bool x.k, .int .i64 x.n, .int .i64 x.lo, .int .i64 x.hi, .int .i64 (up x.p)] 33)) 0 false 0 0 0 0 33
        have xb : Below w.heap.size w ((w.alloc (.cells #[.int .i64 (up x.s), .bool x.k, .int .i64 x.n, .int .i64 x.lo, .int .i64 x.hi, .int .i64 (up x.p)] 33)).alloc (.cells #[.int .i64 0, .bool false, .int .i64 0, .int .i64 0, .int .i64 0, .int .i64 0] 33)) := (by repeat (first | exact Below.refl _ _ | (refine Below.drew ?_) | (refine below_drewN ?_ _) | (refine Below.setCell ?_ (by first | omega | (simp; done) | (simp; omega)) _) | (refine Below.alloc ?_ (by first | omega | (simp; done) | (simp; omega)) _) | (refine Below.trans ?_ (Below.mono (by assumption) (by first | omega | (simp; done) | (simp; omega))))))
        go_enter Tryd.func21, Tryd.ntmps21
        go_upto_region 1 with fail
        go_name_world W hW
        rw [hW] at x0 x1 xf xb
        clear hW
        obtain ⟨N, hN⟩ : ∃ N, N = w.heap.size := ⟨_, rfl⟩
        rw [← hN] at x0 x1 xf xb ⊢
        have HN : Hid (N = w.heap.size) := hN
        clear hN
        have HA := hide (And.intro x0 (And.intro x1 (And.intro xf xb)))
        clear x0 x1 xf xb
        have a0 := HA.out.1.c0
        have a1 := HA.out.1.c1
        have a2 := HA.out.1.c2
        have a3 := HA.out.1.c3
        have a4 := HA.out.1.c4
        have a5 := HA.out.1.c5
        have b0 := HA.out.2.1.c0
        have b1 := HA.out.2.1.c1
        have b2 := HA.out.2.1.c2
        have b3 := HA.out.2.1.c3
        have b4 := HA.out.2.1.c4
        have b5 := HA.out.2.1.c5
        have f0 := HA.out.2.2.1.f0
        have f1 := HA.out.2.2.1.f1
        have f2 := HA.out.2.2.1.f2
        have f3 := HA.out.2.2.1.f3
        have f4 := HA.out.2.2.1.f4
        have f5 := HA.out.2.2.1.f5
        go_wp2_with fail
        have zw := HA.out.2.1.wrote (up x.s) x.k x.n x.lo x.hi (up x.p)
        have hZ := st6_below HA.out.2.2.2 (N + 1) (Nat.le_succ _) (.int .i64 (up x.s)) (.bool x.k) (.int .i64 x.n) (.int .i64 x.lo) (.int .i64 x.hi) (.int .i64 (up x.p))
        clear HA a0 a1 a2 a3 a4 a5 b0 b1 b2 b3 b4 b5 f0 f1 f2 f3 f4 f5
        have a0 := zw.c0
        have a1 := zw.c1
        have a2 := zw.c2
        have a3 := zw.c3
        have a4 := zw.c4
        have a5 := zw.c5
        clear zw
        refine bodyPost_ret (by simp [results, Tryd.results21, go_sem, *]; try rfl) rfl ⟨?_, by rw [← HN.out]; exact hZ⟩
        rw [HR.out] <;> rfl
end Go.Proofs.YthiacdbjlkpfgaaDoor
