import Derived.Test.YtmhicllhjiglkaaG08
import Derived.Test.YtmhicllhjiglkaaG10
import Derived.Deep.RegionHeld3
import Derived.Test.YtmhicllhjiglkaaG06
namespace Go.Proofs.Ytmhicllhjiglkaa
open Go.RowKit
theorem none_S (w : World) : Calls Try.prog 37 #[] w fun e w' => e = .returned (.agg #[.bool false, .slice none 0 0, .slice none 0 0]) ∧ Below w.heap.size w w' := by
  go_enter Try.func37, Try.ntmps37
  go_wp2
  exact bodyPost_ret (by simp [results, Try.results37, go_sem]; try rfl) rfl ⟨rfl, (by repeat (first | exact Below.refl _ _ | (refine Below.setCell ?_ (by first | omega | (simp; done) | (simp; omega)) _) | (refine Below.alloc ?_ (by first | omega | (simp; done) | (simp; omega)) _)))⟩
theorem rv_one {w : World} {q : Nat} {x : R} (h : B6 w q 0 x) : RV w (some ⟨q, 0, none⟩) [x] := fun m y hy => by
  cases m with
  | zero => simp at hy; subst hy; exact ⟨q, 0, rfl, h⟩
  | succ m => simp at hy
theorem begin_told : beginS 2 [anyV.raw] 5 = ⟨true, [anyV.raw, (ofV 0).raw], [[5], [6]]⟩ := by
  simp [beginS, argV, List.range_succ]
theorem right_told7 : rightS true [anyV.raw, (ofV 0).raw] [[5], [6]] 2 7 = true := by decide +kernel
theorem right_told6 : rightS true [anyV.raw, (ofV 0).raw] [[5], [6]] 2 6 = false := by decide +kernel
set_option maxRecDepth 100000 in
set_option maxHeartbeats 8000000 in
theorem told_any (w : World) : Calls Try.prog 12 #[] w fun e w' => e = .returned (.bool true) ∧ Below w.heap.size w w' := by
  go_enter Try.func12, Try.ntmps12
  have cA := fun w => any_V w
  have cB := fun a w h => begin_S 2 a 1 [anyV.raw] 5 w h (by omega) (by omega) (by omega)
  rw [show Int.toNat 2 = 2 from rfl, begin_told] at cB
  have R7 := right_told7
  have R6 := right_told6
  have hY := fun (v : World) (t : TypeId) => B6.newV v anyV t
  obtain ⟨xx, hxx⟩ : ∃ z9, z9 = anyV := ⟨_, rfl⟩
  rw [← hxx] at cA cB R7 R6 hY
  clear hxx
  have cOf := fun w => of_V 0 w
  obtain ⟨zz, hzz⟩ : ∃ z9, z9 = ofV 0 := ⟨_, rfl⟩
  rw [← hzz] at cOf cB R7 R6
  clear hzz
  have HR7 := hide R7
  have HR6 := hide R6
  clear R7 R6
  go_upto_region 2 with (first | (go_at_call 40; refine (cA _).mono ?_; rintro e wA ⟨rfl, hA⟩; have hY2 := hide (hY wA 53); have hA2 := hide (hA.trans ((Below.refl _ _).alloc (hA.size) (.cells #[.int .i64 (up xx.s), .bool xx.k, .int .i64 xx.n, .int .i64 xx.lo, .int .i64 xx.hi, .int .i64 (up xx.p)] 53))); clear hA cA hY) | (go_at_call 27; refine (cB (some ⟨wA.heap.size, 0, none⟩) _ (rv_one hY2.out)).mono ?_; rintro e wB ⟨v, rfl, hR, hB⟩; obtain ⟨a, c, b, d, rfl, k1, k2, -, -, -, -⟩ := hR.rs; dsimp only at k1 k2 ⊢; replace hB := hide hB; have K1 := hide k1; have K2 := hide k2; clear k1 k2))
  go_name_world W hW
  obtain ⟨q, hq⟩ : ∃ z9, z9 = wB.heap.size := ⟨_, rfl⟩
  rw [← hq]
  obtain ⟨B0, -, uW⟩ := box1 wB _ _ _ _ W hW
  rw [← hq] at B0
  have BW : Hid (Below w.heap.size w W) := hide (hA2.out.trans ((hB.out.mono hA2.out.size).trans (uW.mono (Nat.le_trans hA2.out.size hB.out.size))))
  have K1' := K1.out.keep uW
  have K2' := K2.out.keep uW
  obtain ⟨b1, o1, e1, hz⟩ := K1' 1 zz.raw rfl
  subst e1
  obtain ⟨b2, o2, ev, e2, hc2, hl⟩ := K2' 1 [6] rfl
  subst e2
  obtain ⟨a3, c3, rfl, hri, -, -⟩ := hl
  obtain ⟨b3, o3, e3, hc3⟩ := hri 0 6 rfl
  subst e3
  have C7 : Hid (∀ w', Below W.heap.size W w' → Calls Try.prog 23 #[.agg #[.bool true, .slice (some ⟨b1, o1, none⟩) 2 c, .slice (some ⟨b2, o2, none⟩) 2 d], .int .i64 2, .int .i64 7] w' fun e w'' => e = .returned (.bool true) ∧ Below w'.heap.size w' w'') := hide (fun w' h => by
    have t := right_S (some ⟨b1, o1, none⟩) (some ⟨b2, o2, none⟩) c d true [xx.raw, zz.raw] [[5], [6]] 2 7 w' (K1'.keep h) (K2'.keep h) (by simp) (fun m l hm => by match m, hm with | 0, hm => (simp at hm; subst hm; simp) | 1, hm => (simp at hm; subst hm; simp) | m + 2, hm => simp at hm)
    rw [HR7.out] at t
    exact t)
  have C6 : Hid (∀ w', Below W.heap.size W w' → Calls Try.prog 23 #[.agg #[.bool true, .slice (some ⟨b1, o1, none⟩) 2 c, .slice (some ⟨b2, o2, none⟩) 2 d], .int .i64 2, .int .i64 6] w' fun e w'' => e = .returned (.bool false) ∧ Below w'.heap.size w' w'') := hide (fun w' h => by
    have t := right_S (some ⟨b1, o1, none⟩) (some ⟨b2, o2, none⟩) c d true [xx.raw, zz.raw] [[5], [6]] 2 6 w' (K1'.keep h) (K2'.keep h) (by simp) (fun m l hm => by match m, hm with | 0, hm => (simp at hm; subst hm; simp) | 1, hm => (simp at hm; subst hm; simp) | m + 2, hm => simp at hm)
    rw [HR6.out] at t
    exact t)
  have hfld : ∀ w : World, (Instr.field 29 (Value.agg #[Value.bool false, Value.slice none 0 0, Value.slice none 0 0]) 0).run Try.prog w = .ok (.bool false) w := fun w => by rfl
  have HS : Hid (∀ w', Below W.heap.size W w' → (w'.cell? ⟨q, 0, none⟩ = some (.bool true) ∧ w'.cell? ⟨q, 1, none⟩ = some (.slice (some ⟨b1, o1, none⟩) 2 c) ∧ w'.cell? ⟨q, 2, none⟩ = some (.slice (some ⟨b2, o2, none⟩) 2 d) ∧ w'.cell? ⟨b1, o1 + 6, none⟩ = some (.int .i64 (up zz.s)) ∧ w'.cell? ⟨b1, o1 + 7, none⟩ = some (.bool zz.k) ∧ w'.cell? ⟨b1, o1 + 8, none⟩ = some (.int .i64 zz.n) ∧ w'.cell? ⟨b1, o1 + 9, none⟩ = some (.int .i64 zz.lo) ∧ w'.cell? ⟨b1, o1 + 10, none⟩ = some (.int .i64 zz.hi) ∧ w'.cell? ⟨b1, o1 + 11, none⟩ = some (.int .i64 (up zz.p)) ∧ w'.cell? ⟨b2, o2 + 1, none⟩ = some (.slice (some ⟨b3, o3, none⟩) 1 c3) ∧ w'.cell? ⟨b3, o3, none⟩ = some (.int .i64 6))) := fun w' h => by
    have t0 := B0.keep h
    have t1 := hz.keep h
    exact ⟨t0.c0, t0.c1, t0.c2, t1.c0, t1.c1, t1.c2, t1.c3, t1.c4, t1.c5, (h.cell (p := ⟨b2, o2 + 1, none⟩) (World.block_lt_of_cell? W _ hc2)).trans hc2, (h.cell (p := ⟨b3, o3, none⟩) (World.block_lt_of_cell? W _ hc3)).trans hc3⟩
  clear hW hq B0 uW K1 K2 K1' K2' hz hc2 hri hc3 hA2 hB hY2 HR7 HR6 cB
  refine wp_region_held_drew (S := fun w' => w'.cell? ⟨q, 0, none⟩ = some (.bool true) ∧ w'.cell? ⟨q, 1, none⟩ = some (.slice (some ⟨b1, o1, none⟩) 2 c) ∧ w'.cell? ⟨q, 2, none⟩ = some (.slice (some ⟨b2, o2, none⟩) 2 d) ∧ w'.cell? ⟨b1, o1 + 6, none⟩ = some (.int .i64 (up zz.s)) ∧ w'.cell? ⟨b1, o1 + 7, none⟩ = some (.bool zz.k) ∧ w'.cell? ⟨b1, o1 + 8, none⟩ = some (.int .i64 zz.n) ∧ w'.cell? ⟨b1, o1 + 9, none⟩ = some (.int .i64 zz.lo) ∧ w'.cell? ⟨b1, o1 + 10, none⟩ = some (.int .i64 zz.hi) ∧ w'.cell? ⟨b1, o1 + 11, none⟩ = some (.int .i64 (up zz.p)) ∧ w'.cell? ⟨b2, o2 + 1, none⟩ = some (.slice (some ⟨b3, o3, none⟩) 1 c3) ∧ w'.cell? ⟨b3, o3, none⟩ = some (.int .i64 6)) (by kernel_rfl) (HS.out _ (Below.refl _ _).drew) (fun hH0 => ?_)
  obtain ⟨w0, hw0⟩ : ∃ w0, w0 = W.drew := ⟨_, rfl⟩
  (try rw [← hw0] at hH0)
  rw [← hw0]
  have b0 : Hid (Below W.heap.size W w0) := hw0 ▸ hide (Below.refl _ _).drew
  clear hw0
  refine wpAnyH_take (i := 0) (oi := ({ dst := some 5, op := Op.fieldAddr 29 (Operand.tmp 1) 0, type := 0, pos := "law.go:44", after := #[], guard := none } : Oper)) (v := ?_) rfl (by kernel_rfl) (by kernel_rfl) (by kernel_rfl) (fun _ _ _ h => h) (Or.inl ⟨by rfl, ?_⟩) (by assumption) ?_
  rotate_left
  · (intro wz hSw; (try dsimp only at hSw); go_simp; try with_reducible rfl)
  simp only [Act.put, List.setIfInBounds_toArray, List.set_cons_zero, List.set_cons_succ]
  refine wpAnyH_take (i := 1) (oi := ({ dst := some 6, op := Op.load 4 (Operand.tmp 5), type := 4, pos := "law.go:44", after := #[{ on := 0, ground := Ground.data }], guard := none } : Oper)) (v := ?_) rfl (by kernel_rfl) (by kernel_rfl) (by kernel_rfl) (fun _ _ _ h => h) (Or.inl ⟨by rfl, ?_⟩) (by assumption) ?_
  rotate_left
  · (intro wz hSw; (try dsimp only at hSw); go_simp; try with_reducible rfl)
  simp only [Act.put, List.setIfInBounds_toArray, List.set_cons_zero, List.set_cons_succ]
  refine wpAnyH_take (i := 2) (oi := ({ dst := some 7, op := Op.move (Operand.tmp 6), type := 4, pos := "law.go:44", after := #[{ on := 1, ground := Ground.data }], guard := none } : Oper)) (v := ?_) rfl (by kernel_rfl) (by kernel_rfl) (by kernel_rfl) (fun _ _ _ h => h) (Or.inl ⟨by rfl, ?_⟩) (by assumption) ?_
  rotate_left
  · (intro wz hSw; (try dsimp only at hSw); go_simp; try with_reducible rfl)
  simp only [Act.put, List.setIfInBounds_toArray, List.set_cons_zero, List.set_cons_succ]
  refine wpAnyH_take (i := 3) (oi := ({ dst := some 8, op := Op.fieldAddr 29 (Operand.tmp 1) 1, type := 0, pos := "law.go:44", after := #[{ on := 2, ground := Ground.guard }], guard := some (2, true) } : Oper)) (v := ?_) rfl (by kernel_rfl) (by kernel_rfl) (by kernel_rfl) (fun _ _ _ h => h) (Or.inl ⟨by rfl, ?_⟩) (by assumption) ?_
  rotate_left
  · (intro wz hSw; (try dsimp only at hSw); go_simp; try with_reducible rfl)
  simp only [Act.put, List.setIfInBounds_toArray, List.set_cons_zero, List.set_cons_succ]
  refine wpAnyH_take (i := 4) (oi := ({ dst := some 9, op := Op.load 27 (Operand.tmp 8), type := 27, pos := "law.go:44", after := #[{ on := 3, ground := Ground.data }, { on := 2, ground := Ground.guard }], guard := some (2, true) } : Oper)) (v := ?_) rfl (by kernel_rfl) (by kernel_rfl) (by kernel_rfl) (fun _ _ _ h => h) (Or.inl ⟨by rfl, ?_⟩) (by assumption) ?_
  rotate_left
  · (intro wz hSw; (try dsimp only at hSw); go_simp; try with_reducible rfl)
  simp only [Act.put, List.setIfInBounds_toArray, List.set_cons_zero, List.set_cons_succ]
  refine wpAnyH_take (i := 5) (oi := ({ dst := some 10, op := Op.call { callee := Callee.builtin Builtin.len, args := #[Operand.tmp 9], argTypes := #[27] }, type := 3, pos := "law.go:44", after := #[{ on := 4, ground := Ground.data }, { on := 2, ground := Ground.guard }], guard := some (2, true) } : Oper)) (v := ?_) rfl (by kernel_rfl) (by kernel_rfl) (by kernel_rfl) (fun _ _ _ h => h) (Or.inl ⟨by rfl, ?_⟩) (by assumption) ?_
  rotate_left
  · (intro wz hSw; (try dsimp only at hSw); go_simp; try with_reducible rfl)
  simp only [Act.put, List.setIfInBounds_toArray, List.set_cons_zero, List.set_cons_succ]
  refine wpAnyH_take (i := 6) (oi := ({ dst := some 11, op := Op.binOp BinOp.eql 3 (Operand.tmp 10) (Operand.const (Value.int IntKind.i64 2)) 3, type := 4, pos := "law.go:44", after := #[{ on := 5, ground := Ground.data }, { on := 2, ground := Ground.guard }], guard := some (2, true) } : Oper)) (v := ?_) rfl (by kernel_rfl) (by kernel_rfl) (by kernel_rfl) (fun _ _ _ h => h) (Or.inl ⟨by rfl, ?_⟩) (by assumption) ?_
  rotate_left
  · (intro wz hSw; (try dsimp only at hSw); go_simp; try with_reducible rfl)
  simp only [Act.put, List.setIfInBounds_toArray, List.set_cons_zero, List.set_cons_succ]
  refine wpAnyH_take (i := 7) (oi := ({ dst := some 12, op := Op.pick (Operand.tmp 7) (Operand.tmp 11) (Operand.const (Value.bool false)), type := 4, pos := "law.go:44", after := #[{ on := 2, ground := Ground.data }, { on := 6, ground := Ground.data }], guard := none } : Oper)) (v := ?_) rfl (by kernel_rfl) (by kernel_rfl) (by kernel_rfl) (fun _ _ _ h => h) (Or.inl ⟨by rfl, ?_⟩) (by assumption) ?_
  rotate_left
  · (intro wz hSw; (try dsimp only at hSw); go_simp; try with_reducible rfl)
  simp only [Act.put, List.setIfInBounds_toArray, List.set_cons_zero, List.set_cons_succ]
  refine wpAnyH_take (i := 8) (oi := ({ dst := some 13, op := Op.move (Operand.tmp 12), type := 4, pos := "law.go:44", after := #[{ on := 7, ground := Ground.data }, { on := 2, ground := Ground.chain }], guard := none } : Oper)) (v := ?_) rfl (by kernel_rfl) (by kernel_rfl) (by kernel_rfl) (fun _ _ _ h => h) (Or.inl ⟨by rfl, ?_⟩) (by assumption) ?_
  rotate_left
  · (intro wz hSw; (try dsimp only at hSw); go_simp; try with_reducible rfl)
  simp only [Act.put, List.setIfInBounds_toArray, List.set_cons_zero, List.set_cons_succ]
  refine wpAnyH_take (i := 9) (oi := ({ dst := some 14, op := Op.fieldAddr 29 (Operand.tmp 1) 2, type := 0, pos := "law.go:44", after := #[{ on := 8, ground := Ground.guard }], guard := some (8, true) } : Oper)) (v := ?_) rfl (by kernel_rfl) (by kernel_rfl) (by kernel_rfl) (fun _ _ _ h => h) (Or.inl ⟨by rfl, ?_⟩) (by assumption) ?_
  rotate_left
  · (intro wz hSw; (try dsimp only at hSw); go_simp; try with_reducible rfl)
  simp only [Act.put, List.setIfInBounds_toArray, List.set_cons_zero, List.set_cons_succ]
  refine wpAnyH_take (i := 10) (oi := ({ dst := some 15, op := Op.load 23 (Operand.tmp 14), type := 23, pos := "law.go:44", after := #[{ on := 9, ground := Ground.data }, { on := 8, ground := Ground.guard }], guard := some (8, true) } : Oper)) (v := ?_) rfl (by kernel_rfl) (by kernel_rfl) (by kernel_rfl) (fun _ _ _ h => h) (Or.inl ⟨by rfl, ?_⟩) (by assumption) ?_
  rotate_left
  · (intro wz hSw; (try dsimp only at hSw); go_simp; try with_reducible rfl)
  simp only [Act.put, List.setIfInBounds_toArray, List.set_cons_zero, List.set_cons_succ]
  refine wpAnyH_take (i := 11) (oi := ({ dst := some 16, op := Op.call { callee := Callee.builtin Builtin.len, args := #[Operand.tmp 15], argTypes := #[23] }, type := 3, pos := "law.go:44", after := #[{ on := 10, ground := Ground.data }, { on := 8, ground := Ground.guard }], guard := some (8, true) } : Oper)) (v := ?_) rfl (by kernel_rfl) (by kernel_rfl) (by kernel_rfl) (fun _ _ _ h => h) (Or.inl ⟨by rfl, ?_⟩) (by assumption) ?_
  rotate_left
  · (intro wz hSw; (try dsimp only at hSw); go_simp; try with_reducible rfl)
  simp only [Act.put, List.setIfInBounds_toArray, List.set_cons_zero, List.set_cons_succ]
  refine wpAnyH_take (i := 12) (oi := ({ dst := some 17, op := Op.binOp BinOp.eql 3 (Operand.tmp 16) (Operand.const (Value.int IntKind.i64 2)) 3, type := 4, pos := "law.go:44", after := #[{ on := 11, ground := Ground.data }, { on := 8, ground := Ground.guard }], guard := some (8, true) } : Oper)) (v := ?_) rfl (by kernel_rfl) (by kernel_rfl) (by kernel_rfl) (fun _ _ _ h => h) (Or.inl ⟨by rfl, ?_⟩) (by assumption) ?_
  rotate_left
  · (intro wz hSw; (try dsimp only at hSw); go_simp; try with_reducible rfl)
  simp only [Act.put, List.setIfInBounds_toArray, List.set_cons_zero, List.set_cons_succ]
  refine wpAnyH_take (i := 13) (oi := ({ dst := some 18, op := Op.pick (Operand.tmp 13) (Operand.tmp 17) (Operand.const (Value.bool false)), type := 4, pos := "law.go:44", after := #[{ on := 8, ground := Ground.data }, { on := 12, ground := Ground.data }], guard := none } : Oper)) (v := ?_) rfl (by kernel_rfl) (by kernel_rfl) (by kernel_rfl) (fun _ _ _ h => h) (Or.inl ⟨by rfl, ?_⟩) (by assumption) ?_
  rotate_left
  · (intro wz hSw; (try dsimp only at hSw); go_simp; try with_reducible rfl)
  simp only [Act.put, List.setIfInBounds_toArray, List.set_cons_zero, List.set_cons_succ]
  refine wpAnyH_take (i := 14) (oi := ({ dst := some 19, op := Op.move (Operand.tmp 18), type := 4, pos := "law.go:44", after := #[{ on := 13, ground := Ground.data }, { on := 8, ground := Ground.chain }], guard := none } : Oper)) (v := ?_) rfl (by kernel_rfl) (by kernel_rfl) (by kernel_rfl) (fun _ _ _ h => h) (Or.inl ⟨by rfl, ?_⟩) (by assumption) ?_
  rotate_left
  · (intro wz hSw; (try dsimp only at hSw); go_simp; try with_reducible rfl)
  simp only [Act.put, List.setIfInBounds_toArray, List.set_cons_zero, List.set_cons_succ]
  refine wpAnyH_take (i := 15) (oi := ({ dst := some 20, op := Op.fieldAddr 29 (Operand.tmp 1) 1, type := 0, pos := "law.go:44", after := #[{ on := 14, ground := Ground.guard }], guard := some (14, true) } : Oper)) (v := ?_) rfl (by kernel_rfl) (by kernel_rfl) (by kernel_rfl) (fun _ _ _ h => h) (Or.inl ⟨by rfl, ?_⟩) (by assumption) ?_
  rotate_left
  · (intro wz hSw; (try dsimp only at hSw); go_simp; try with_reducible rfl)
  simp only [Act.put, List.setIfInBounds_toArray, List.set_cons_zero, List.set_cons_succ]
  refine wpAnyH_take (i := 16) (oi := ({ dst := some 21, op := Op.load 27 (Operand.tmp 20), type := 27, pos := "law.go:44", after := #[{ on := 15, ground := Ground.data }, { on := 14, ground := Ground.guard }], guard := some (14, true) } : Oper)) (v := ?_) rfl (by kernel_rfl) (by kernel_rfl) (by kernel_rfl) (fun _ _ _ h => h) (Or.inl ⟨by rfl, ?_⟩) (by assumption) ?_
  rotate_left
  · (intro wz hSw; (try dsimp only at hSw); go_simp; try with_reducible rfl)
  simp only [Act.put, List.setIfInBounds_toArray, List.set_cons_zero, List.set_cons_succ]
  refine wpAnyH_take (i := 17) (oi := ({ dst := some 22, op := Op.indexAddr 27 (Operand.tmp 21) (Operand.const (Value.int IntKind.i64 1)), type := 0, pos := "law.go:44", after := #[{ on := 16, ground := Ground.data }, { on := 14, ground := Ground.guard }], guard := some (14, true) } : Oper)) (v := ?_) rfl (by kernel_rfl) (by kernel_rfl) (by kernel_rfl) (fun _ _ _ h => h) (Or.inl ⟨by rfl, ?_⟩) (by assumption) ?_
  rotate_left
  · (intro wz hSw; (try dsimp only at hSw); go_simp; try with_reducible rfl)
  simp only [Act.put, List.setIfInBounds_toArray, List.set_cons_zero, List.set_cons_succ]
  refine wpAnyH_take (i := 18) (oi := ({ dst := some 23, op := Op.load 53 (Operand.tmp 22), type := 53, pos := "law.go:44", after := #[{ on := 17, ground := Ground.data }, { on := 14, ground := Ground.guard }], guard := some (14, true) } : Oper)) (v := ?_) rfl (by kernel_rfl) (by kernel_rfl) (by kernel_rfl) (fun _ _ _ h => h) (Or.inl ⟨by rfl, ?_⟩) (by assumption) ?_
  rotate_left
  · (intro wz hSw; (try dsimp only at hSw); go_simp; try with_reducible rfl)
  simp only [Act.put, List.setIfInBounds_toArray, List.set_cons_zero, List.set_cons_succ]
  refine wpAnyH_ready (rs := [19]) (by kernel_rfl) (by simp) ?_
  refine AllReadyH.cons (o := ({ dst := some 24, op := Op.call { callee := Callee.value (Operand.func 41), args := #[Operand.const (Value.int IntKind.i64 0)], argTypes := #[2] }, type := 53, pos := "law.go:44", after := #[{ on := 14, ground := Ground.chain }, { on := 14, ground := Ground.guard }], guard := some (14, true) } : Oper)) rfl (fun K hK => ?_) AllReadyH.nil
  · go_simp
    go_at_call 41
    refine (cOf _).mono ?_
    rintro e w1 ⟨rfl, hb1⟩
    have b1 := hide (b0.out.trans (hb1.mono b0.out.size))
    refine hK.out _ _ (HS.out _ b1.out) (fun hH1 => ?_)
    clear hK K hb1
    refine wpAnyH_take (i := 20) (oi := ({ dst := some 25, op := Op.binOp BinOp.eql 53 (Operand.tmp 23) (Operand.tmp 24) 53, type := 4, pos := "law.go:44", after := #[{ on := 18, ground := Ground.data }, { on := 19, ground := Ground.data }, { on := 14, ground := Ground.guard }], guard := some (14, true) } : Oper)) (v := ?_) rfl (by kernel_rfl) (by kernel_rfl) (by kernel_rfl) (fun _ _ _ h => h) (Or.inl ⟨by rfl, ?_⟩) (by assumption) ?_
    rotate_left
    · (intro wz hSw; (try dsimp only at hSw); go_simp; try with_reducible rfl)
    simp only [Act.put, List.setIfInBounds_toArray, List.set_cons_zero, List.set_cons_succ]
    refine wpAnyH_take (i := 21) (oi := ({ dst := some 26, op := Op.pick (Operand.tmp 19) (Operand.tmp 25) (Operand.const (Value.bool false)), type := 4, pos := "law.go:44", after := #[{ on := 14, ground := Ground.data }, { on := 20, ground := Ground.data }], guard := none } : Oper)) (v := ?_) rfl (by kernel_rfl) (by kernel_rfl) (by kernel_rfl) (fun _ _ _ h => h) (Or.inl ⟨by rfl, ?_⟩) (by assumption) ?_
    rotate_left
    · (intro wz hSw; (try dsimp only at hSw); go_simp; try with_reducible rfl)
    simp only [Act.put, List.setIfInBounds_toArray, List.set_cons_zero, List.set_cons_succ]
    refine wpAnyH_take (i := 22) (oi := ({ dst := some 27, op := Op.move (Operand.tmp 26), type := 4, pos := "law.go:44", after := #[{ on := 21, ground := Ground.data }, { on := 19, ground := Ground.chain }], guard := none } : Oper)) (v := ?_) rfl (by kernel_rfl) (by kernel_rfl) (by kernel_rfl) (fun _ _ _ h => h) (Or.inl ⟨by rfl, ?_⟩) (by assumption) ?_
    rotate_left
    · (intro wz hSw; (try dsimp only at hSw); go_simp; try with_reducible rfl)
    simp only [Act.put, List.setIfInBounds_toArray, List.set_cons_zero, List.set_cons_succ]
    refine wpAnyH_take (i := 23) (oi := ({ dst := some 28, op := Op.fieldAddr 29 (Operand.tmp 1) 2, type := 0, pos := "law.go:44", after := #[{ on := 22, ground := Ground.guard }], guard := some (22, true) } : Oper)) (v := ?_) rfl (by kernel_rfl) (by kernel_rfl) (by kernel_rfl) (fun _ _ _ h => h) (Or.inl ⟨by rfl, ?_⟩) (by assumption) ?_
    rotate_left
    · (intro wz hSw; (try dsimp only at hSw); go_simp; try with_reducible rfl)
    simp only [Act.put, List.setIfInBounds_toArray, List.set_cons_zero, List.set_cons_succ]
    refine wpAnyH_take (i := 24) (oi := ({ dst := some 29, op := Op.load 23 (Operand.tmp 28), type := 23, pos := "law.go:44", after := #[{ on := 23, ground := Ground.data }, { on := 22, ground := Ground.guard }], guard := some (22, true) } : Oper)) (v := ?_) rfl (by kernel_rfl) (by kernel_rfl) (by kernel_rfl) (fun _ _ _ h => h) (Or.inl ⟨by rfl, ?_⟩) (by assumption) ?_
    rotate_left
    · (intro wz hSw; (try dsimp only at hSw); go_simp; try with_reducible rfl)
    simp only [Act.put, List.setIfInBounds_toArray, List.set_cons_zero, List.set_cons_succ]
    refine wpAnyH_take (i := 25) (oi := ({ dst := some 30, op := Op.indexAddr 23 (Operand.tmp 29) (Operand.const (Value.int IntKind.i64 1)), type := 0, pos := "law.go:44", after := #[{ on := 24, ground := Ground.data }, { on := 22, ground := Ground.guard }], guard := some (22, true) } : Oper)) (v := ?_) rfl (by kernel_rfl) (by kernel_rfl) (by kernel_rfl) (fun _ _ _ h => h) (Or.inl ⟨by rfl, ?_⟩) (by assumption) ?_
    rotate_left
    · (intro wz hSw; (try dsimp only at hSw); go_simp; try with_reducible rfl)
    simp only [Act.put, List.setIfInBounds_toArray, List.set_cons_zero, List.set_cons_succ]
    refine wpAnyH_take (i := 26) (oi := ({ dst := some 31, op := Op.load 38 (Operand.tmp 30), type := 38, pos := "law.go:44", after := #[{ on := 25, ground := Ground.data }, { on := 22, ground := Ground.guard }], guard := some (22, true) } : Oper)) (v := ?_) rfl (by kernel_rfl) (by kernel_rfl) (by kernel_rfl) (fun _ _ _ h => h) (Or.inl ⟨by rfl, ?_⟩) (by assumption) ?_
    rotate_left
    · (intro wz hSw; (try dsimp only at hSw); go_simp; try with_reducible rfl)
    simp only [Act.put, List.setIfInBounds_toArray, List.set_cons_zero, List.set_cons_succ]
    refine wpAnyH_take (i := 27) (oi := ({ dst := some 32, op := Op.call { callee := Callee.builtin Builtin.len, args := #[Operand.tmp 31], argTypes := #[38] }, type := 3, pos := "law.go:44", after := #[{ on := 26, ground := Ground.data }, { on := 22, ground := Ground.guard }], guard := some (22, true) } : Oper)) (v := ?_) rfl (by kernel_rfl) (by kernel_rfl) (by kernel_rfl) (fun _ _ _ h => h) (Or.inl ⟨by rfl, ?_⟩) (by assumption) ?_
    rotate_left
    · (intro wz hSw; (try dsimp only at hSw); go_simp; try with_reducible rfl)
    simp only [Act.put, List.setIfInBounds_toArray, List.set_cons_zero, List.set_cons_succ]
    refine wpAnyH_take (i := 28) (oi := ({ dst := some 33, op := Op.binOp BinOp.eql 3 (Operand.tmp 32) (Operand.const (Value.int IntKind.i64 1)) 3, type := 4, pos := "law.go:44", after := #[{ on := 27, ground := Ground.data }, { on := 22, ground := Ground.guard }], guard := some (22, true) } : Oper)) (v := ?_) rfl (by kernel_rfl) (by kernel_rfl) (by kernel_rfl) (fun _ _ _ h => h) (Or.inl ⟨by rfl, ?_⟩) (by assumption) ?_
    rotate_left
    · (intro wz hSw; (try dsimp only at hSw); go_simp; try with_reducible rfl)
    simp only [Act.put, List.setIfInBounds_toArray, List.set_cons_zero, List.set_cons_succ]
    refine wpAnyH_take (i := 29) (oi := ({ dst := some 34, op := Op.pick (Operand.tmp 27) (Operand.tmp 33) (Operand.const (Value.bool false)), type := 4, pos := "law.go:44", after := #[{ on := 22, ground := Ground.data }, { on := 28, ground := Ground.data }], guard := none } : Oper)) (v := ?_) rfl (by kernel_rfl) (by kernel_rfl) (by kernel_rfl) (fun _ _ _ h => h) (Or.inl ⟨by rfl, ?_⟩) (by assumption) ?_
    rotate_left
    · (intro wz hSw; (try dsimp only at hSw); go_simp; try with_reducible rfl)
    simp only [Act.put, List.setIfInBounds_toArray, List.set_cons_zero, List.set_cons_succ]
    refine wpAnyH_take (i := 30) (oi := ({ dst := some 35, op := Op.move (Operand.tmp 34), type := 4, pos := "law.go:44", after := #[{ on := 29, ground := Ground.data }, { on := 22, ground := Ground.chain }], guard := none } : Oper)) (v := ?_) rfl (by kernel_rfl) (by kernel_rfl) (by kernel_rfl) (fun _ _ _ h => h) (Or.inl ⟨by rfl, ?_⟩) (by assumption) ?_
    rotate_left
    · (intro wz hSw; (try dsimp only at hSw); go_simp; try with_reducible rfl)
    simp only [Act.put, List.setIfInBounds_toArray, List.set_cons_zero, List.set_cons_succ]
    refine wpAnyH_take (i := 31) (oi := ({ dst := some 36, op := Op.fieldAddr 29 (Operand.tmp 1) 2, type := 0, pos := "law.go:44", after := #[{ on := 30, ground := Ground.guard }], guard := some (30, true) } : Oper)) (v := ?_) rfl (by kernel_rfl) (by kernel_rfl) (by kernel_rfl) (fun _ _ _ h => h) (Or.inl ⟨by rfl, ?_⟩) (by assumption) ?_
    rotate_left
    · (intro wz hSw; (try dsimp only at hSw); go_simp; try with_reducible rfl)
    simp only [Act.put, List.setIfInBounds_toArray, List.set_cons_zero, List.set_cons_succ]
    refine wpAnyH_take (i := 32) (oi := ({ dst := some 37, op := Op.load 23 (Operand.tmp 36), type := 23, pos := "law.go:44", after := #[{ on := 31, ground := Ground.data }, { on := 30, ground := Ground.guard }], guard := some (30, true) } : Oper)) (v := ?_) rfl (by kernel_rfl) (by kernel_rfl) (by kernel_rfl) (fun _ _ _ h => h) (Or.inl ⟨by rfl, ?_⟩) (by assumption) ?_
    rotate_left
    · (intro wz hSw; (try dsimp only at hSw); go_simp; try with_reducible rfl)
    simp only [Act.put, List.setIfInBounds_toArray, List.set_cons_zero, List.set_cons_succ]
    refine wpAnyH_take (i := 33) (oi := ({ dst := some 38, op := Op.indexAddr 23 (Operand.tmp 37) (Operand.const (Value.int IntKind.i64 1)), type := 0, pos := "law.go:44", after := #[{ on := 32, ground := Ground.data }, { on := 30, ground := Ground.guard }], guard := some (30, true) } : Oper)) (v := ?_) rfl (by kernel_rfl) (by kernel_rfl) (by kernel_rfl) (fun _ _ _ h => h) (Or.inl ⟨by rfl, ?_⟩) (by assumption) ?_
    rotate_left
    · (intro wz hSw; (try dsimp only at hSw); go_simp; try with_reducible rfl)
    simp only [Act.put, List.setIfInBounds_toArray, List.set_cons_zero, List.set_cons_succ]
    refine wpAnyH_take (i := 34) (oi := ({ dst := some 39, op := Op.load 38 (Operand.tmp 38), type := 38, pos := "law.go:44", after := #[{ on := 33, ground := Ground.data }, { on := 30, ground := Ground.guard }], guard := some (30, true) } : Oper)) (v := ?_) rfl (by kernel_rfl) (by kernel_rfl) (by kernel_rfl) (fun _ _ _ h => h) (Or.inl ⟨by rfl, ?_⟩) (by assumption) ?_
    rotate_left
    · (intro wz hSw; (try dsimp only at hSw); go_simp; try with_reducible rfl)
    simp only [Act.put, List.setIfInBounds_toArray, List.set_cons_zero, List.set_cons_succ]
    refine wpAnyH_take (i := 35) (oi := ({ dst := some 40, op := Op.indexAddr 38 (Operand.tmp 39) (Operand.const (Value.int IntKind.i64 0)), type := 0, pos := "law.go:44", after := #[{ on := 34, ground := Ground.data }, { on := 30, ground := Ground.guard }], guard := some (30, true) } : Oper)) (v := ?_) rfl (by kernel_rfl) (by kernel_rfl) (by kernel_rfl) (fun _ _ _ h => h) (Or.inl ⟨by rfl, ?_⟩) (by assumption) ?_
    rotate_left
    · (intro wz hSw; (try dsimp only at hSw); go_simp; try with_reducible rfl)
    simp only [Act.put, List.setIfInBounds_toArray, List.set_cons_zero, List.set_cons_succ]
    refine wpAnyH_take (i := 36) (oi := ({ dst := some 41, op := Op.load 3 (Operand.tmp 40), type := 3, pos := "law.go:44", after := #[{ on := 35, ground := Ground.data }, { on := 30, ground := Ground.guard }], guard := some (30, true) } : Oper)) (v := ?_) rfl (by kernel_rfl) (by kernel_rfl) (by kernel_rfl) (fun _ _ _ h => h) (Or.inl ⟨by rfl, ?_⟩) (by assumption) ?_
    rotate_left
    · (intro wz hSw; (try dsimp only at hSw); go_simp; try with_reducible rfl)
    simp only [Act.put, List.setIfInBounds_toArray, List.set_cons_zero, List.set_cons_succ]
    refine wpAnyH_take (i := 37) (oi := ({ dst := some 42, op := Op.binOp BinOp.eql 3 (Operand.tmp 41) (Operand.const (Value.int IntKind.i64 6)) 3, type := 4, pos := "law.go:44", after := #[{ on := 36, ground := Ground.data }, { on := 30, ground := Ground.guard }], guard := some (30, true) } : Oper)) (v := ?_) rfl (by kernel_rfl) (by kernel_rfl) (by kernel_rfl) (fun _ _ _ h => h) (Or.inl ⟨by rfl, ?_⟩) (by assumption) ?_
    rotate_left
    · (intro wz hSw; (try dsimp only at hSw); go_simp; try with_reducible rfl)
    simp only [Act.put, List.setIfInBounds_toArray, List.set_cons_zero, List.set_cons_succ]
    refine wpAnyH_take (i := 38) (oi := ({ dst := some 43, op := Op.pick (Operand.tmp 35) (Operand.tmp 42) (Operand.const (Value.bool false)), type := 4, pos := "law.go:44", after := #[{ on := 30, ground := Ground.data }, { on := 37, ground := Ground.data }], guard := none } : Oper)) (v := ?_) rfl (by kernel_rfl) (by kernel_rfl) (by kernel_rfl) (fun _ _ _ h => h) (Or.inl ⟨by rfl, ?_⟩) (by assumption) ?_
    rotate_left
    · (intro wz hSw; (try dsimp only at hSw); go_simp; try with_reducible rfl)
    simp only [Act.put, List.setIfInBounds_toArray, List.set_cons_zero, List.set_cons_succ]
    refine wpAnyH_take (i := 39) (oi := ({ dst := some 44, op := Op.move (Operand.tmp 43), type := 4, pos := "law.go:44", after := #[{ on := 38, ground := Ground.data }, { on := 30, ground := Ground.chain }], guard := none } : Oper)) (v := ?_) rfl (by kernel_rfl) (by kernel_rfl) (by kernel_rfl) (fun _ _ _ h => h) (Or.inl ⟨by rfl, ?_⟩) (by assumption) ?_
    rotate_left
    · (intro wz hSw; (try dsimp only at hSw); go_simp; try with_reducible rfl)
    simp only [Act.put, List.setIfInBounds_toArray, List.set_cons_zero, List.set_cons_succ]
    refine wpAnyH_ready (rs := [40]) (by kernel_rfl) (by simp) ?_
    refine AllReadyH.cons (o := ({ dst := some 45, op := Op.call { callee := Callee.value (Operand.func 37), args := #[], argTypes := #[] }, type := 29, pos := "law.go:44", after := #[{ on := 39, ground := Ground.chain }, { on := 39, ground := Ground.guard }], guard := some (39, true) } : Oper)) rfl (fun K hK => ?_) AllReadyH.nil
    · go_simp
      go_at_call 37
      refine (none_S _).mono ?_
      rintro e w2 ⟨rfl, hb2⟩
      have b2 := hide (b1.out.trans (hb2.mono b1.out.size))
      refine hK.out _ _ (HS.out _ b2.out) (fun hH2 => ?_)
      clear hK K hb2
      refine wpAnyH_take (i := 41) (oi := ({ dst := some 46, op := Op.field 29 (Operand.tmp 45) 0, type := 4, pos := "law.go:44", after := #[{ on := 40, ground := Ground.data }, { on := 39, ground := Ground.guard }], guard := some (39, true) } : Oper)) (v := ?_) rfl (by kernel_rfl) (by kernel_rfl) (by kernel_rfl) (fun _ _ _ h => h) (Or.inl ⟨by rfl, ?_⟩) (by assumption) ?_
      rotate_left
      · (intro wz hSw; (try dsimp only at hSw); go_simp; try with_reducible rfl)
      simp only [Act.put, List.setIfInBounds_toArray, List.set_cons_zero, List.set_cons_succ]
      refine wpAnyH_take (i := 42) (oi := ({ dst := some 47, op := Op.unOp UnOp.not 4 (Operand.tmp 46), type := 4, pos := "law.go:44", after := #[{ on := 41, ground := Ground.data }, { on := 39, ground := Ground.guard }], guard := some (39, true) } : Oper)) (v := ?_) rfl (by kernel_rfl) (by kernel_rfl) (by kernel_rfl) (fun _ _ _ h => h) (Or.inl ⟨by rfl, ?_⟩) (by assumption) ?_
      rotate_left
      · (intro wz hSw; (try dsimp only at hSw); go_simp; try with_reducible rfl)
      simp only [Act.put, List.setIfInBounds_toArray, List.set_cons_zero, List.set_cons_succ]
      refine wpAnyH_take (i := 43) (oi := ({ dst := some 48, op := Op.pick (Operand.tmp 44) (Operand.tmp 47) (Operand.const (Value.bool false)), type := 4, pos := "law.go:44", after := #[{ on := 39, ground := Ground.data }, { on := 42, ground := Ground.data }], guard := none } : Oper)) (v := ?_) rfl (by kernel_rfl) (by kernel_rfl) (by kernel_rfl) (fun _ _ _ h => h) (Or.inl ⟨by rfl, ?_⟩) (by assumption) ?_
      rotate_left
      · (intro wz hSw; (try dsimp only at hSw); go_simp; try with_reducible rfl)
      simp only [Act.put, List.setIfInBounds_toArray, List.set_cons_zero, List.set_cons_succ]
      refine wpAnyH_take (i := 44) (oi := ({ dst := some 49, op := Op.move (Operand.tmp 48), type := 4, pos := "law.go:44", after := #[{ on := 43, ground := Ground.data }, { on := 40, ground := Ground.chain }], guard := none } : Oper)) (v := ?_) rfl (by kernel_rfl) (by kernel_rfl) (by kernel_rfl) (fun _ _ _ h => h) (Or.inl ⟨by rfl, ?_⟩) (by assumption) ?_
      rotate_left
      · (intro wz hSw; (try dsimp only at hSw); go_simp; try with_reducible rfl)
      simp only [Act.put, List.setIfInBounds_toArray, List.set_cons_zero, List.set_cons_succ]
      refine wpAnyH_take (i := 45) (oi := ({ dst := some 50, op := Op.load 29 (Operand.tmp 1), type := 29, pos := "law.go:44", after := #[{ on := 44, ground := Ground.guard }], guard := some (44, true) } : Oper)) (v := ?_) rfl (by kernel_rfl) (by kernel_rfl) (by kernel_rfl) (fun _ _ _ h => h) (Or.inl ⟨by rfl, ?_⟩) (by assumption) ?_
      rotate_left
      · (intro wz hSw; (try dsimp only at hSw); go_simp; try with_reducible rfl)
      simp only [Act.put, List.setIfInBounds_toArray, List.set_cons_zero, List.set_cons_succ]
      refine wpAnyH_ready (rs := [46]) (by kernel_rfl) (by simp) ?_
      refine AllReadyH.cons (o := ({ dst := some 51, op := Op.call { callee := Callee.value (Operand.func 23), args := #[Operand.tmp 50, Operand.const (Value.int IntKind.i64 2), Operand.const (Value.int IntKind.i64 7)], argTypes := #[29, 3, 3] }, type := 4, pos := "law.go:44", after := #[{ on := 45, ground := Ground.data }, { on := 44, ground := Ground.chain }, { on := 44, ground := Ground.guard }], guard := some (44, true) } : Oper)) rfl (fun K hK => ?_) AllReadyH.nil
      · go_simp
        go_at_call 23
        refine (C7.out _ b2.out).mono ?_
        rintro e w3 ⟨rfl, hb3⟩
        have b3 := hide (b2.out.trans (hb3.mono b2.out.size))
        refine hK.out _ _ (HS.out _ b3.out) (fun hH3 => ?_)
        clear hK K hb3
        refine wpAnyH_take (i := 47) (oi := ({ dst := some 52, op := Op.pick (Operand.tmp 49) (Operand.tmp 51) (Operand.const (Value.bool false)), type := 4, pos := "law.go:44", after := #[{ on := 44, ground := Ground.data }, { on := 46, ground := Ground.data }], guard := none } : Oper)) (v := ?_) rfl (by kernel_rfl) (by kernel_rfl) (by kernel_rfl) (fun _ _ _ h => h) (Or.inl ⟨by rfl, ?_⟩) (by assumption) ?_
        rotate_left
        · (intro wz hSw; (try dsimp only at hSw); go_simp; try with_reducible rfl)
        simp only [Act.put, List.setIfInBounds_toArray, List.set_cons_zero, List.set_cons_succ]
        refine wpAnyH_take (i := 48) (oi := ({ dst := some 53, op := Op.move (Operand.tmp 52), type := 4, pos := "law.go:44", after := #[{ on := 47, ground := Ground.data }, { on := 46, ground := Ground.chain }], guard := none } : Oper)) (v := ?_) rfl (by kernel_rfl) (by kernel_rfl) (by kernel_rfl) (fun _ _ _ h => h) (Or.inl ⟨by rfl, ?_⟩) (by assumption) ?_
        rotate_left
        · (intro wz hSw; (try dsimp only at hSw); go_simp; try with_reducible rfl)
        simp only [Act.put, List.setIfInBounds_toArray, List.set_cons_zero, List.set_cons_succ]
        refine wpAnyH_take (i := 49) (oi := ({ dst := some 54, op := Op.load 29 (Operand.tmp 1), type := 29, pos := "law.go:44", after := #[{ on := 48, ground := Ground.guard }], guard := some (48, true) } : Oper)) (v := ?_) rfl (by kernel_rfl) (by kernel_rfl) (by kernel_rfl) (fun _ _ _ h => h) (Or.inl ⟨by rfl, ?_⟩) (by assumption) ?_
        rotate_left
        · (intro wz hSw; (try dsimp only at hSw); go_simp; try with_reducible rfl)
        simp only [Act.put, List.setIfInBounds_toArray, List.set_cons_zero, List.set_cons_succ]
        refine wpAnyH_ready (rs := [50]) (by kernel_rfl) (by simp) ?_
        refine AllReadyH.cons (o := ({ dst := some 55, op := Op.call { callee := Callee.value (Operand.func 23), args := #[Operand.tmp 54, Operand.const (Value.int IntKind.i64 2), Operand.const (Value.int IntKind.i64 6)], argTypes := #[29, 3, 3] }, type := 4, pos := "law.go:44", after := #[{ on := 49, ground := Ground.data }, { on := 48, ground := Ground.chain }, { on := 48, ground := Ground.guard }], guard := some (48, true) } : Oper)) rfl (fun K hK => ?_) AllReadyH.nil
        · go_simp
          go_at_call 23
          refine (C6.out _ b3.out).mono ?_
          rintro e w4 ⟨rfl, hb4⟩
          have b4 := hide (b3.out.trans (hb4.mono b3.out.size))
          refine hK.out _ _ (HS.out _ b4.out) (fun hH4 => ?_)
          clear hK K hb4
          refine wpAnyH_take (i := 51) (oi := ({ dst := some 56, op := Op.unOp UnOp.not 4 (Operand.tmp 55), type := 4, pos := "law.go:44", after := #[{ on := 50, ground := Ground.data }, { on := 48, ground := Ground.guard }], guard := some (48, true) } : Oper)) (v := ?_) rfl (by kernel_rfl) (by kernel_rfl) (by kernel_rfl) (fun _ _ _ h => h) (Or.inl ⟨by rfl, ?_⟩) (by assumption) ?_
          rotate_left
          · (intro wz hSw; (try dsimp only at hSw); go_simp; try with_reducible rfl)
          simp only [Act.put, List.setIfInBounds_toArray, List.set_cons_zero, List.set_cons_succ]
          refine wpAnyH_take (i := 52) (oi := ({ dst := some 57, op := Op.pick (Operand.tmp 53) (Operand.tmp 56) (Operand.const (Value.bool false)), type := 4, pos := "law.go:44", after := #[{ on := 48, ground := Ground.data }, { on := 51, ground := Ground.data }], guard := none } : Oper)) (v := ?_) rfl (by kernel_rfl) (by kernel_rfl) (by kernel_rfl) (fun _ _ _ h => h) (Or.inl ⟨by rfl, ?_⟩) (by assumption) ?_
          rotate_left
          · (intro wz hSw; (try dsimp only at hSw); go_simp; try with_reducible rfl)
          simp only [Act.put, List.setIfInBounds_toArray, List.set_cons_zero, List.set_cons_succ]
          refine wpAnyH_take (i := 53) (oi := ({ dst := some 0, op := Op.assign (Operand.tmp 57), type := 4, pos := "law.go:44", after := #[{ on := 52, ground := Ground.data }, { on := 50, ground := Ground.chain }, { on := 0, ground := Ground.phase }, { on := 1, ground := Ground.phase }, { on := 2, ground := Ground.phase }, { on := 3, ground := Ground.phase }, { on := 4, ground := Ground.phase }, { on := 5, ground := Ground.phase }, { on := 6, ground := Ground.phase }, { on := 7, ground := Ground.phase }, { on := 8, ground := Ground.phase }, { on := 9, ground := Ground.phase }, { on := 10, ground := Ground.phase }, { on := 11, ground := Ground.phase }, { on := 12, ground := Ground.phase }, { on := 13, ground := Ground.phase }, { on := 14, ground := Ground.phase }, { on := 15, ground := Ground.phase }, { on := 16, ground := Ground.phase }, { on := 17, ground := Ground.phase }, { on := 18, ground := Ground.phase }, { on := 19, ground := Ground.phase }, { on := 20, ground := Ground.phase }, { on := 21, ground := Ground.phase }, { on := 22, ground := Ground.phase }, { on := 23, ground := Ground.phase }, { on := 24, ground := Ground.phase }, { on := 25, ground := Ground.phase }, { on := 26, ground := Ground.phase }, { on := 27, ground := Ground.phase }, { on := 28, ground := Ground.phase }, { on := 29, ground := Ground.phase }, { on := 30, ground := Ground.phase }, { on := 31, ground := Ground.phase }, { on := 32, ground := Ground.phase }, { on := 33, ground := Ground.phase }, { on := 34, ground := Ground.phase }, { on := 35, ground := Ground.phase }, { on := 36, ground := Ground.phase }, { on := 37, ground := Ground.phase }, { on := 38, ground := Ground.phase }, { on := 39, ground := Ground.phase }, { on := 40, ground := Ground.phase }, { on := 41, ground := Ground.phase }, { on := 42, ground := Ground.phase }, { on := 43, ground := Ground.phase }, { on := 44, ground := Ground.phase }, { on := 45, ground := Ground.phase }, { on := 46, ground := Ground.phase }, { on := 47, ground := Ground.phase }, { on := 48, ground := Ground.phase }, { on := 49, ground := Ground.phase }, { on := 50, ground := Ground.phase }, { on := 51, ground := Ground.phase }, { on := 52, ground := Ground.phase }], guard := none } : Oper)) (v := ?_) rfl (by kernel_rfl) (by kernel_rfl) (by kernel_rfl) (fun _ _ _ h => h) (Or.inl ⟨by rfl, ?_⟩) (by assumption) ?_
          rotate_left
          · (intro wz hSw; (try dsimp only at hSw); go_simp; try with_reducible rfl)
          simp only [Act.put, List.setIfInBounds_toArray, List.set_cons_zero]
          refine wpAnyH_done (by kernel_rfl) ?_ _
          go_wp2
          go_ret
          exact ⟨by simp, BW.out.trans (b4.out.mono BW.out.size)⟩
end Go.Proofs.Ytmhicllhjiglkaa
namespace Go.Proofs.Ytmhicllhjiglkaa
open Go.RowKit
/-- three cells at a block -/
structure A3 (w : World) (q : Nat) (n : Int) (va : Value) (f : Int) : Prop where
  c0 : w.cell? ⟨q, 0, none⟩ = some (.int .i64 n)
  c1 : w.cell? ⟨q, 1, none⟩ = some va
  c2 : w.cell? ⟨q, 2, none⟩ = some (.int .i64 f)
theorem A3.lt {w : World} {q : Nat} {n f : Int} {va : Value} (h : A3 w q n va f) : q < w.heap.size := World.block_lt_of_cell? w _ h.c0
theorem A3.of {w w' : World} {q : Nat} {n f : Int} {va : Value} (h : A3 w q n va f) (e : w'.heap[q]? = w.heap[q]?) : A3 w' q n va f :=
  ⟨(World.cell?_of_block (a := ⟨q, 0, none⟩) e).trans h.c0, (World.cell?_of_block (a := ⟨q, 1, none⟩) e).trans h.c1, (World.cell?_of_block (a := ⟨q, 2, none⟩) e).trans h.c2⟩
theorem A3.new (w : World) (n f : Int) (va : Value) (t : TypeId) : A3 (w.alloc (.cells #[.int .i64 n, va, .int .i64 f] t)) w.heap.size n va f := ⟨by simp, by simp, by simp⟩
def fixR (x : R) : R := (fixV x.s x.k x.n x.lo x.hi x.p).raw
/-- what stands in a round: both rows, the box -/
structure Bg (w wr : World) (q : Nat) (n f : Int) (va v4 v5 : Value) (p4 p5 : List R) : Prop where
  bx : A3 wr q n va f
  o4 : OwV wr (q + 1) 48 v4 p4
  o5 : OwV wr (q + 1) 53 v5 p5
  bel : Below w.heap.size w wr
  hq : w.heap.size ≤ q
theorem Bg.keep {w wr wz : World} {q : Nat} {n f : Int} {va v4 v5 : Value} {p4 p5 : List R} (h : Bg w wr q n f va v4 v5 p4 p5) (hb : Below wr.heap.size wr wz) : Bg w wz q n f va v4 v5 p4 p5 :=
  ⟨h.bx.of (hb.block q h.bx.lt), h.o4.keep hb, h.o5.keep hb, h.bel.trans (hb.mono h.bel.size), h.hq⟩
theorem Bg.app4 {w wr wz : World} {q : Nat} {n f : Int} {va v4 v5 v4' : Value} {p4 p5 p4' : List R} (h : Bg w wr q n f va v4 v5 p4 p5) (hO : OwV wz (q + 1) 48 v4' p4') (hg : wr.grownBy wz v4.ownBlock) : Bg w wz q n f va v4' v5 p4' p5 :=
  ⟨h.bx.of (hg.block q h.bx.lt (fun e => by have := (h.o4.lt q e.symm).1; omega)), hO, h.o5.of (fun k hk => hg.block k (h.o5.lt k hk).2 (own_ne h.o5 h.o4 (by decide) k hk)), h.bel.grown hg h.bel.size (fun k hk => by have := (h.o4.lt k hk).1; have := h.hq; omega), h.hq⟩
theorem Bg.app5 {w wr wz : World} {q : Nat} {n f : Int} {va v4 v5 v5' : Value} {p4 p5 p5' : List R} (h : Bg w wr q n f va v4 v5 p4 p5) (hO : OwV wz (q + 1) 53 v5' p5') (hg : wr.grownBy wz v5.ownBlock) : Bg w wz q n f va v4 v5' p4 p5' :=
  ⟨h.bx.of (hg.block q h.bx.lt (fun e => by have := (h.o5.lt q e.symm).1; omega)), h.o4.of (fun k hk => hg.block k (h.o4.lt k hk).2 (own_ne h.o4 h.o5 (by decide) k hk)), hO, h.bel.grown hg h.bel.size (fun k hk => by have := (h.o5.lt k hk).1; have := h.hq; omega), h.hq⟩
theorem beginS_in (k : Nat) (args : List R) (first : Int) : ∀ (m : Nat) (l : List Int), (beginS k args first).ss[m]? = some l → l.length ≤ 100000 := fun m l h => by
  unfold beginS at h
  simp only [List.getElem?_map, Option.map_eq_some_iff] at h
  obtain ⟨r, -, rfl⟩ := h
  simp
set_option maxRecDepth 100000 in
set_option maxHeartbeats 8000000 in
theorem stateBegins_walk (n first : Int) (a : Option Addr) (c : Nat) (vs : List R) (w : World) (hv : RV w a vs) (hvi : ∀ (m : Nat) (x : R), vs[m]? = some x → i64 x.n ∧ i64 x.lo ∧ i64 x.hi) :
    Calls Try.prog 5 #[.agg #[.int .i64 n, .slice a vs.length c, .int .i64 first]] w fun e w' => e = .returned (.bool true) ∧ Below w.heap.size w w' := by
  have HV := hide hv
  have HVI := hide hvi
  clear hv hvi
  go_enter Try.func5, Try.ntmps5
  go_upto_if 11 with fail
  go_name_world W hW
  obtain ⟨q, hq⟩ : ∃ z9, z9 = w.heap.size := ⟨_, rfl⟩
  rw [← hq]
  have H1 : Hid (Bg w W q n first (.slice a vs.length c) (.slice none 0 0) (.slice none 0 0) [] []) := by
    unfold Hid
    rw [← hW, hq]
    exact ⟨A3.new _ _ _ _ _, OwV.nil _ _ _, OwV.nil _ _ _, (Below.refl _ _).alloc (Nat.le_refl _) _, Nat.le_refl _⟩
  clear hW hq
  go_cut [3] (fun s3 wx => ∃ n' : Int, s3 = .int .i64 n' ∧ n' ≤ 20 ∧ wx = W)
  case first =>
    by_cases h20 : n > 20
    · go_wp2_with fail
      go_meet
      case rel => exact ⟨20, rfl, by omega, rfl⟩
    · go_wp2_with fail
      go_meet
      case rel => exact ⟨n, rfl, by omega, rfl⟩
  case rest =>
    obtain ⟨n', rfl, hn', hwc⟩ := hcut
    subst hwc
    go_wp2_with fail
    go_loopw [4, 5, 6] (fun s4 s5 s6 wr => ∃ (k : Nat), s6 = .int .i64 k ∧ k ≤ 20 ∧ Hid (Bg w wr q n first (.slice a vs.length c) s4 s5 ((vs.take k).map fixR) ((vs.take k).map fixR))) (fun _ _ s6 _ => 20 - (intOf s6).toNat)
    case atStart => exact ⟨0, rfl, Nat.zero_le _, H1.out⟩
    case round =>
      obtain ⟨k, rfl, hk, h4⟩ := hrel
      clear H1
      have e1 := h4.out.bx.c1
      by_cases hkv : k < vs.length
      · have hkv2 : (k : Int) < vs.length := by omega
        by_cases hk20 : k < 20
        · have hk21 : (k : Int) < 20 := by omega
          obtain ⟨b1, o1, x, hX, rfl, hx6⟩ := HV.out.at hkv
          have HX : Hid ((vs.take (k + 1)).map fixR = (vs.take k).map fixR ++ [fixR x]) := hide (by rw [take_more hX, List.map_append]; rfl)
          have HFI := hide (HVI.out k x hX)
          obtain ⟨pv, hpv⟩ : ∃ z9, z9 = (vs.take k).map fixR := ⟨_, rfl⟩
          have hpl : pv.length ≤ 1000000 := by rw [hpv, List.length_map, List.length_take]; omega
          rw [← hpv] at h4 HX
          clear hpv
          obtain ⟨a4, c4, rfl, -, -⟩ := h4.out.o4.slice
          obtain ⟨a5, c5, rfl, -, -⟩ := h4.out.o5.slice
          have t6 := hx6.keep h4.out.bel
          have d0 := t6.c0
          have d1 := t6.c1
          have d2 := t6.c2
          have d3 := t6.c3
          have d4 := t6.c4
          have d5 := t6.c5
          have HX6 := hide hx6
          have cF := fun w => fix_V x.s x.k x.n x.lo x.hi x.p w
          have hfr : fixR x = (fixV x.s x.k x.n x.lo x.hi x.p).raw := rfl
          rw [hfr] at HX
          clear hX hx6 t6 hfr
          generalize fixV x.s x.k x.n x.lo x.hi x.p = u at *
          go_upto_region 10 with (first | (go_at_call 25; refine (cF _).mono ?_; rintro e wA ⟨rfl, hA⟩; replace hA := hide hA) | (at_builtin; refine wpList_appV wA (q + 1) 22 48 Try.underlying22 info48p rfl (.tmp 23) (.tmp 30) rfl _ pv u.raw (h4.out.o4.keep hA.out) rfl rfl hpl (Nat.succ_le_of_lt (h4.out.bx.of (hA.out.block q h4.out.bx.lt)).lt) ?_; intro a2 c2 w2 hO hg; replace hO := hide hO; replace hg := hide hg))
          have G1 : Hid (Bg w w2 q n first (.slice (some ⟨b1, o1, none⟩) vs.length c) (.slice a2 (pv.length + 1) c2) (.slice a5 pv.length c5) (pv ++ [u.raw]) pv) := hide (((h4.out.keep hA.out).keep ((Below.refl _ _).alloc (Nat.le_refl _) _)).app4 hO.out hg.out)
          clear hO hg hA h4 e1 d0 d1 d2 d3 d4 d5
          have e1 := G1.out.bx.c1
          have t6 := HX6.out.keep G1.out.bel
          have d0 := t6.c0
          have d1 := t6.c1
          have d2 := t6.c2
          have d3 := t6.c3
          have d4 := t6.c4
          have d5 := t6.c5
          clear t6
          have cT := fun w => to_V (up u.s) u.k u.n u.lo u.hi (up u.p) w
          go_wp2_with (first | (go_at_call 25; refine (cF _).mono ?_; rintro e wC ⟨rfl, hC⟩; have G2 := hide (G1.out.keep hC); clear hC cF e1 d0 d1 d2 d3 d4 d5) | (go_at_call 26; refine (cT _).mono ?_; rintro e wD ⟨rfl, hD⟩; have G3 := hide (G2.out.keep hD); clear hD cT) | (at_builtin; refine wpList_appV wD (q + 1) 27 53 Try.underlying27 info53p rfl (.tmp 32) (.tmp 40) rfl _ pv u.raw G3.out.o5 rfl rfl hpl (Nat.succ_le_of_lt G3.out.bx.lt) ?_; intro a3 c3 w3 hO hg; replace hO := hide hO; replace hg := hide hg))
          exact ⟨⟨k + 1, by simp, by omega, by rw [HX.out]; exact (G3.out.keep ((Below.refl _ _).alloc (Nat.le_refl _) _)).app5 hO.out hg.out⟩, by simp [intOf]; omega⟩
        · have hk21 : ¬ (k : Int) < 20 := by omega
          obtain ⟨pv, hpv⟩ : ∃ z9, z9 = (vs.take k).map fixR := ⟨_, rfl⟩
          rw [← hpv] at h4
          clear hpv
          obtain ⟨a4, c4, rfl, -, -⟩ := h4.out.o4.slice
          obtain ⟨a5, c5, rfl, -, -⟩ := h4.out.o5.slice
          have e2 := h4.out.bx.c2
          go_upto_region 12 with fail
          have hZ := site_ok first 4000 (by omega) (by omega)
          generalize hgz : wrap64 ((IntKind.u64.wrap first).tmod 4000) = z at *
          replace hgz := hide hgz
          have hz0 : 0 ≤ z := hZ.1
          have hz1 : z ≤ 4000 := by have := hZ.2; omega
          clear hZ e1 e2
          have c27 := fun w h => begin_S n' a5 c5 pv z w h hn' hz0 hz1
          have c28 := fun w h => beginr_S n' a4 c4 pv z w h hn' hz0 hz1
          have sl := beginS_vl n'.toNat pv z
          have tl := beginS_sl n'.toNat pv z
          have il := hide (beginS_in n'.toNat pv z)
          have H4 := hide h4.out
          clear h4
          obtain ⟨PS, hPS⟩ : ∃ z9, z9 = beginS n'.toNat pv z := ⟨_, rfl⟩
          rw [← hPS] at c27 c28 sl tl il
          clear hPS
          have sl2 : PS.vs.length ≤ 100000 := by omega
          have tl2 : PS.ss.length ≤ 100000 := by omega
          clear sl tl
          go_wp2_with (first | (go_at_call 12; refine (told_any _).mono ?_; rintro e wB ⟨rfl, hB⟩; have G1 := hide (H4.out.keep hB); clear hB H4) | (go_at_call 27; refine (c27 _ G1.out.o5.rv).mono ?_; rintro e wC ⟨vC, rfl, hR, hC⟩; have G2 := hide (G1.out.keep hC); have RC := hide hR; clear hR hC G1 c27) | (go_at_call 28; refine (c28 _ G2.out.o4.rv).mono ?_; rintro e wD ⟨vD, rfl, hR, hD⟩; have G3 := hide (G2.out.keep hD); have RC2 := hide (RC.out.keep hD); have RD := hide hR; clear hR hD G2 c28 RC) | (go_at_call 13; refine (same_S RC2.out.rs RD.out.rs sl2 tl2 il.out).mono ?_; rintro e wE ⟨rfl, hE⟩; have G4 := hide (G3.out.keep hE); clear hE G3))
          go_ret
          exact ⟨by simp, G4.out.bel⟩
      · have hkv2 : ¬ (k : Int) < vs.length := by omega
        obtain ⟨pv, hpv⟩ : ∃ z9, z9 = (vs.take k).map fixR := ⟨_, rfl⟩
        rw [← hpv] at h4
        clear hpv
        obtain ⟨a4, c4, rfl, -, -⟩ := h4.out.o4.slice
        obtain ⟨a5, c5, rfl, -, -⟩ := h4.out.o5.slice
        have e2 := h4.out.bx.c2
        go_upto_region 12 with fail
        have hZ := site_ok first 4000 (by omega) (by omega)
        generalize hgz : wrap64 ((IntKind.u64.wrap first).tmod 4000) = z at *
        replace hgz := hide hgz
        have hz0 : 0 ≤ z := hZ.1
        have hz1 : z ≤ 4000 := by have := hZ.2; omega
        clear hZ e1 e2
        have c27 := fun w h => begin_S n' a5 c5 pv z w h hn' hz0 hz1
        have c28 := fun w h => beginr_S n' a4 c4 pv z w h hn' hz0 hz1
        have sl := beginS_vl n'.toNat pv z
        have tl := beginS_sl n'.toNat pv z
        have il := hide (beginS_in n'.toNat pv z)
        have H4 := hide h4.out
        clear h4
        obtain ⟨PS, hPS⟩ : ∃ z9, z9 = beginS n'.toNat pv z := ⟨_, rfl⟩
        rw [← hPS] at c27 c28 sl tl il
        clear hPS
        have sl2 : PS.vs.length ≤ 100000 := by omega
        have tl2 : PS.ss.length ≤ 100000 := by omega
        clear sl tl
        go_wp2_with (first | (go_at_call 12; refine (told_any _).mono ?_; rintro e wB ⟨rfl, hB⟩; have G1 := hide (H4.out.keep hB); clear hB H4) | (go_at_call 27; refine (c27 _ G1.out.o5.rv).mono ?_; rintro e wC ⟨vC, rfl, hR, hC⟩; have G2 := hide (G1.out.keep hC); have RC := hide hR; clear hR hC G1 c27) | (go_at_call 28; refine (c28 _ G2.out.o4.rv).mono ?_; rintro e wD ⟨vD, rfl, hR, hD⟩; have G3 := hide (G2.out.keep hD); have RC2 := hide (RC.out.keep hD); have RD := hide hR; clear hR hD G2 c28 RC) | (go_at_call 13; refine (same_S RC2.out.rs RD.out.rs sl2 tl2 il.out).mono ?_; rintro e wE ⟨rfl, hE⟩; have G4 := hide (G3.out.keep hE); clear hE G3))
        go_ret
        exact ⟨by simp, G4.out.bel⟩
end Go.Proofs.Ytmhicllhjiglkaa
