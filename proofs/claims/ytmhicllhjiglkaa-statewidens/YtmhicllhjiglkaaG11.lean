import Derived.Test.YtmhicllhjiglkaaG10
import Derived.Test.YtmhicllhjiglkaaG09
import Derived.Deep.RegionHeld3
import Derived.Test.YtmhicllhjiglkaaG07
import Derived.Test.YtmhicllhjiglkaaG08
import Derived.Test.YtmhicllhjiglkaaG04
import Derived.Test.YtmhicllhjiglkaaG01
import Derived.Lib.BufferMore
namespace Go.Proofs.Ytmhicllhjiglkaa
open Go.RowKit
theorem none_S (w : World) : Calls Try.prog 37 #[] w fun e w' => e = .returned (.agg #[.bool false, .slice none 0 0, .slice none 0 0]) ∧ Below w.heap.size w w' := by
  go_enter Try.func37, Try.ntmps37
  go_wp2
  exact bodyPost_ret (by simp [results, Try.results37, go_sem]; try rfl) rfl ⟨rfl, (by repeat (first | exact Below.refl _ _ | (refine Below.setCell ?_ (by first | omega | (simp; done) | (simp; omega)) _) | (refine Below.alloc ?_ (by first | omega | (simp; done) | (simp; omega)) _)))⟩
theorem rv_one {w : World} {q : Nat} {x : R} (h : B6 w q 0 x) : RV w (some ⟨q, 0, none⟩) [x] := fun m y hy => by
  cases m with
  | zero => simp at hy; subst hy; exact ⟨q, 0, rfl, h⟩
  | succ m => simp at hy
theorem begin_told : beginS 2 [anyV.raw] 5 = ⟨true, [anyV.raw, (ofV 0).raw], [[5], [6]]⟩ := by
  simp [beginS, argV, List.range_succ]
theorem right_told7 : rightS true [anyV.raw, (ofV 0).raw] [[5], [6]] 2 7 = true := by decide +kernel
theorem right_told6 : rightS true [anyV.raw, (ofV 0).raw] [[5], [6]] 2 6 = false := by decide +kernel
set_option maxRecDepth 100000 in
set_option maxHeartbeats 8000000 in
theorem told_any (w : World) : Calls Try.prog 12 #[] w fun e w' => e = .returned (.bool true) ∧ Below w.heap.size w w' := by
  go_enter Try.func12, Try.ntmps12
  have cA := fun w => any_V w
  have cB := fun a w h => begin_S 2 a 1 [anyV.raw] 5 w h (by omega) (by omega) (by omega)
  rw [show Int.toNat 2 = 2 from rfl, begin_told] at cB
  have R7 := right_told7
  have R6 := right_told6
  have hY := fun (v : World) (t : TypeId) => B6.newV v anyV t
  obtain ⟨xx, hxx⟩ : ∃ z9, z9 = anyV := ⟨_, rfl⟩
  rw [← hxx] at cA cB R7 R6 hY
  clear hxx
  have cOf := fun w => of_V 0 w
  obtain ⟨zz, hzz⟩ : ∃ z9, z9 = ofV 0 := ⟨_, rfl⟩
  rw [← hzz] at cOf cB R7 R6
  clear hzz
  have HR7 := hide R7
  have HR6 := hide R6
  clear R7 R6
  go_upto_region 2 with (first | (go_at_call 40; refine (cA _).mono ?_; rintro e wA ⟨rfl, hA⟩; have hY2 := hide (hY wA 53); have hA2 := hide (hA.trans ((Below.refl _ _).alloc (hA.size) (.cells #[.int .i64 (up xx.s), .bool xx.k, .int .i64 xx.n, .int .i64 xx.lo, .int .i64 xx.hi, .int .i64 (up xx.p)] 53))); clear hA cA hY) | (go_at_call 27; refine (cB (some ⟨wA.heap.size, 0, none⟩) _ (rv_one hY2.out)).mono ?_; rintro e wB ⟨v, rfl, hR, hB⟩; obtain ⟨a, c, b, d, rfl, k1, k2, -, -, -, -⟩ := hR.rs; dsimp only at k1 k2 ⊢; replace hB := hide hB; have K1 := hide k1; have K2 := hide k2; clear k1 k2))
  go_name_world W hW
  obtain ⟨q, hq⟩ : ∃ z9, z9 = wB.heap.size := ⟨_, rfl⟩
  rw [← hq]
  obtain ⟨B0, -, uW⟩ := box1 wB _ _ _ _ W hW
  rw [← hq] at B0
  have BW : Hid (Below w.heap.size w W) := hide (hA2.out.trans ((hB.out.mono hA2.out.size).trans (uW.mono (Nat.le_trans hA2.out.size hB.out.size))))
  have K1' := K1.out.keep uW
  have K2' := K2.out.keep uW
  obtain ⟨b1, o1, e1, hz⟩ := K1' 1 zz.raw rfl
  subst e1
  obtain ⟨b2, o2, ev, e2, hc2, hl⟩ := K2' 1 [6] rfl
  subst e2
  obtain ⟨a3, c3, rfl, hri, -, -⟩ := hl
  obtain ⟨b3, o3, e3, hc3⟩ := hri 0 6 rfl
  subst e3
  have C7 : Hid (∀ w', Below W.heap.size W w' → Calls Try.prog 23 #[.agg #[.bool true, .slice (some ⟨b1, o1, none⟩) 2 c, .slice (some ⟨b2, o2, none⟩) 2 d], .int .i64 2, .int .i64 7] w' fun e w'' => e = .returned (.bool true) ∧ Below w'.heap.size w' w'') := hide (fun w' h => by
    have t := right_S (some ⟨b1, o1, none⟩) (some ⟨b2, o2, none⟩) c d true [xx.raw, zz.raw] [[5], [6]] 2 7 w' (K1'.keep h) (K2'.keep h) (by simp) (fun m l hm => by match m, hm with | 0, hm => (simp at hm; subst hm; simp) | 1, hm => (simp at hm; subst hm; simp) | m + 2, hm => simp at hm)
    rw [HR7.out] at t
    exact t)
  have C6 : Hid (∀ w', Below W.heap.size W w' → Calls Try.prog 23 #[.agg #[.bool true, .slice (some ⟨b1, o1, none⟩) 2 c, .slice (some ⟨b2, o2, none⟩) 2 d], .int .i64 2, .int .i64 6] w' fun e w'' => e = .returned (.bool false) ∧ Below w'.heap.size w' w'') := hide (fun w' h => by
    have t := right_S (some ⟨b1, o1, none⟩) (some ⟨b2, o2, none⟩) c d true [xx.raw, zz.raw] [[5], [6]] 2 6 w' (K1'.keep h) (K2'.keep h) (by simp) (fun m l hm => by match m, hm with | 0, hm => (simp at hm; subst hm; simp) | 1, hm => (simp at hm; subst hm; simp) | m + 2, hm => simp at hm)
    rw [HR6.out] at t
    exact t)
  have hfld : ∀ w : World, (Instr.field 29 (Value.agg #[Value.bool false, Value.slice none 0 0, Value.slice none 0 0]) 0).run Try.prog w = .ok (.bool false) w := fun w => by rfl
  have HS : Hid (∀ w', Below W.heap.size W w' → (w'.cell? ⟨q, 0, none⟩ = some (.bool true) ∧ w'.cell? ⟨q, 1, none⟩ = some (.slice (some ⟨b1, o1, none⟩) 2 c) ∧ w'.cell? ⟨q, 2, none⟩ = some (.slice (some ⟨b2, o2, none⟩) 2 d) ∧ w'.cell? ⟨b1, o1 + 6, none⟩ = some (.int .i64 (up zz.s)) ∧ w'.cell? ⟨b1, o1 + 7, none⟩ = some (.bool zz.k) ∧ w'.cell? ⟨b1, o1 + 8, none⟩ = some (.int .i64 zz.n) ∧ w'.cell? ⟨b1, o1 + 9, none⟩ = some (.int .i64 zz.lo) ∧ w'.cell? ⟨b1, o1 + 10, none⟩ = some (.int .i64 zz.hi) ∧ w'.cell? ⟨b1, o1 + 11, none⟩ = some (.int .i64 (up zz.p)) ∧ w'.cell? ⟨b2, o2 + 1, none⟩ = some (.slice (some ⟨b3, o3, none⟩) 1 c3) ∧ w'.cell? ⟨b3, o3, none⟩ = some (.int .i64 6))) := fun w' h => by
    have t0 := B0.keep h
    have t1 := hz.keep h
    exact ⟨t0.c0, t0.c1, t0.c2, t1.c0, t1.c1, t1.c2, t1.c3, t1.c4, t1.c5, (h.cell (p := ⟨b2, o2 + 1, none⟩) (World.block_lt_of_cell? W _ hc2)).trans hc2, (h.cell (p := ⟨b3, o3, none⟩) (World.block_lt_of_cell? W _ hc3)).trans hc3⟩
  clear hW hq B0 uW K1 K2 K1' K2' hz hc2 hri hc3 hA2 hB hY2 HR7 HR6 cB
  refine wp_region_held_drew (S := fun w' => w'.cell? ⟨q, 0, none⟩ = some (.bool true) ∧ w'.cell? ⟨q, 1, none⟩ = some (.slice (some ⟨b1, o1, none⟩) 2 c) ∧ w'.cell? ⟨q, 2, none⟩ = some (.slice (some ⟨b2, o2, none⟩) 2 d) ∧ w'.cell? ⟨b1, o1 + 6, none⟩ = some (.int .i64 (up zz.s)) ∧ w'.cell? ⟨b1, o1 + 7, none⟩ = some (.bool zz.k) ∧ w'.cell? ⟨b1, o1 + 8, none⟩ = some (.int .i64 zz.n) ∧ w'.cell? ⟨b1, o1 + 9, none⟩ = some (.int .i64 zz.lo) ∧ w'.cell? ⟨b1, o1 + 10, none⟩ = some (.int .i64 zz.hi) ∧ w'.cell? ⟨b1, o1 + 11, none⟩ = some (.int .i64 (up zz.p)) ∧ w'.cell? ⟨b2, o2 + 1, none⟩ = some (.slice (some ⟨b3, o3, none⟩) 1 c3) ∧ w'.cell? ⟨b3, o3, none⟩ = some (.int .i64 6)) (by kernel_rfl) (HS.out _ (Below.refl _ _).drew) (fun hH0 => ?_)
  obtain ⟨w0, hw0⟩ : ∃ w0, w0 = W.drew := ⟨_, rfl⟩
  (try rw [← hw0] at hH0)
  rw [← hw0]
  have b0 : Hid (Below W.heap.size W w0) := hw0 ▸ hide (Below.refl _ _).drew
  clear hw0
  refine wpAnyH_take (i := 0) (oi := ({ dst := some 5, op := Op.fieldAddr 29 (Operand.tmp 1) 0, type := 0, pos := "law.go:44", after := #[], guard := none } : Oper)) (v := ?_) rfl (by kernel_rfl) (by kernel_rfl) (by kernel_rfl) (fun _ _ _ h => h) (Or.inl ⟨by rfl, ?_⟩) (by assumption) ?_
  rotate_left
  · (intro wz hSw; (try dsimp only at hSw); go_simp; try with_reducible rfl)
  simp only [Act.put, List.setIfInBounds_toArray, List.set_cons_zero, List.set_cons_succ]
  refine wpAnyH_take (i := 1) (oi := ({ dst := some 6, op := Op.load 4 (Operand.tmp 5), type := 4, pos := "law.go:44", after := #[{ on := 0, ground := Ground.data }], guard := none } : Oper)) (v := ?_) rfl (by kernel_rfl) (by kernel_rfl) (by kernel_rfl) (fun _ _ _ h => h) (Or.inl ⟨by rfl, ?_⟩) (by assumption) ?_
  rotate_left
  · (intro wz hSw; (try dsimp only at hSw); go_simp; try with_reducible rfl)
  simp only [Act.put, List.setIfInBounds_toArray, List.set_cons_zero, List.set_cons_succ]
  refine wpAnyH_take (i := 2) (oi := ({ dst := some 7, op := Op.move (Operand.tmp 6), type := 4, pos := "law.go:44", after := #[{ on := 1, ground := Ground.data }], guard := none } : Oper)) (v := ?_) rfl (by kernel_rfl) (by kernel_rfl) (by kernel_rfl) (fun _ _ _ h => h) (Or.inl ⟨by rfl, ?_⟩) (by assumption) ?_
  rotate_left
  · (intro wz hSw; (try dsimp only at hSw); go_simp; try with_reducible rfl)
  simp only [Act.put, List.setIfInBounds_toArray, List.set_cons_zero, List.set_cons_succ]
  refine wpAnyH_take (i := 3) (oi := ({ dst := some 8, op := Op.fieldAddr 29 (Operand.tmp 1) 1, type := 0, pos := "law.go:44", after := #[{ on := 2, ground := Ground.guard }], guard := some (2, true) } : Oper)) (v := ?_) rfl (by kernel_rfl) (by kernel_rfl) (by kernel_rfl) (fun _ _ _ h => h) (Or.inl ⟨by rfl, ?_⟩) (by assumption) ?_
  rotate_left
  · (intro wz hSw; (try dsimp only at hSw); go_simp; try with_reducible rfl)
  simp only [Act.put, List.setIfInBounds_toArray, List.set_cons_zero, List.set_cons_succ]
  refine wpAnyH_take (i := 4) (oi := ({ dst := some 9, op := Op.load 27 (Operand.tmp 8), type := 27, pos := "law.go:44", after := #[{ on := 3, ground := Ground.data }, { on := 2, ground := Ground.guard }], guard := some (2, true) } : Oper)) (v := ?_) rfl (by kernel_rfl) (by kernel_rfl) (by kernel_rfl) (fun _ _ _ h => h) (Or.inl ⟨by rfl, ?_⟩) (by assumption) ?_
  rotate_left
  · (intro wz hSw; (try dsimp only at hSw); go_simp; try with_reducible rfl)
  simp only [Act.put, List.setIfInBounds_toArray, List.set_cons_zero, List.set_cons_succ]
  refine wpAnyH_take (i := 5) (oi := ({ dst := some 10, op := Op.call { callee := Callee.builtin Builtin.len, args := #[Operand.tmp 9], argTypes := #[27] }, type := 3, pos := "law.go:44", after := #[{ on := 4, ground := Ground.data }, { on := 2, ground := Ground.guard }], guard := some (2, true) } : Oper)) (v := ?_) rfl (by kernel_rfl) (by kernel_rfl) (by kernel_rfl) (fun _ _ _ h => h) (Or.inl ⟨by rfl, ?_⟩) (by assumption) ?_
  rotate_left
  · (intro wz hSw; (try dsimp only at hSw); go_simp; try with_reducible rfl)
  simp only [Act.put, List.setIfInBounds_toArray, List.set_cons_zero, List.set_cons_succ]
  refine wpAnyH_take (i := 6) (oi := ({ dst := some 11, op := Op.binOp BinOp.eql 3 (Operand.tmp 10) (Operand.const (Value.int IntKind.i64 2)) 3, type := 4, pos := "law.go:44", after := #[{ on := 5, ground := Ground.data }, { on := 2, ground := Ground.guard }], guard := some (2, true) } : Oper)) (v := ?_) rfl (by kernel_rfl) (by kernel_rfl) (by kernel_rfl) (fun _ _ _ h => h) (Or.inl ⟨by rfl, ?_⟩) (by assumption) ?_
  rotate_left
  · (intro wz hSw; (try dsimp only at hSw); go_simp; try with_reducible rfl)
  simp only [Act.put, List.setIfInBounds_toArray, List.set_cons_zero, List.set_cons_succ]
  refine wpAnyH_take (i := 7) (oi := ({ dst := some 12, op := Op.pick (Operand.tmp 7) (Operand.tmp 11) (Operand.const (Value.bool false)), type := 4, pos := "law.go:44", after := #[{ on := 2, ground := Ground.data }, { on := 6, ground := Ground.data }], guard := none } : Oper)) (v := ?_) rfl (by kernel_rfl) (by kernel_rfl) (by kernel_rfl) (fun _ _ _ h => h) (Or.inl ⟨by rfl, ?_⟩) (by assumption) ?_
  rotate_left
  · (intro wz hSw; (try dsimp only at hSw); go_simp; try with_reducible rfl)
  simp only [Act.put, List.setIfInBounds_toArray, List.set_cons_zero, List.set_cons_succ]
  refine wpAnyH_take (i := 8) (oi := ({ dst := some 13, op := Op.move (Operand.tmp 12), type := 4, pos := "law.go:44", after := #[{ on := 7, ground := Ground.data }, { on := 2, ground := Ground.chain }], guard := none } : Oper)) (v := ?_) rfl (by kernel_rfl) (by kernel_rfl) (by kernel_rfl) (fun _ _ _ h => h) (Or.inl ⟨by rfl, ?_⟩) (by assumption) ?_
  rotate_left
  · (intro wz hSw; (try dsimp only at hSw); go_simp; try with_reducible rfl)
  simp only [Act.put, List.setIfInBounds_toArray, List.set_cons_zero, List.set_cons_succ]
  refine wpAnyH_take (i := 9) (oi := ({ dst := some 14, op := Op.fieldAddr 29 (Operand.tmp 1) 2, type := 0, pos := "law.go:44", after := #[{ on := 8, ground := Ground.guard }], guard := some (8, true) } : Oper)) (v := ?_) rfl (by kernel_rfl) (by kernel_rfl) (by kernel_rfl) (fun _ _ _ h => h) (Or.inl ⟨by rfl, ?_⟩) (by assumption) ?_
  rotate_left
  · (intro wz hSw; (try dsimp only at hSw); go_simp; try with_reducible rfl)
  simp only [Act.put, List.setIfInBounds_toArray, List.set_cons_zero, List.set_cons_succ]
  refine wpAnyH_take (i := 10) (oi := ({ dst := some 15, op := Op.load 23 (Operand.tmp 14), type := 23, pos := "law.go:44", after := #[{ on := 9, ground := Ground.data }, { on := 8, ground := Ground.guard }], guard := some (8, true) } : Oper)) (v := ?_) rfl (by kernel_rfl) (by kernel_rfl) (by kernel_rfl) (fun _ _ _ h => h) (Or.inl ⟨by rfl, ?_⟩) (by assumption) ?_
  rotate_left
  · (intro wz hSw; (try dsimp only at hSw); go_simp; try with_reducible rfl)
  simp only [Act.put, List.setIfInBounds_toArray, List.set_cons_zero, List.set_cons_succ]
  refine wpAnyH_take (i := 11) (oi := ({ dst := some 16, op := Op.call { callee := Callee.builtin Builtin.len, args := #[Operand.tmp 15], argTypes := #[23] }, type := 3, pos := "law.go:44", after := #[{ on := 10, ground := Ground.data }, { on := 8, ground := Ground.guard }], guard := some (8, true) } : Oper)) (v := ?_) rfl (by kernel_rfl) (by kernel_rfl) (by kernel_rfl) (fun _ _ _ h => h) (Or.inl ⟨by rfl, ?_⟩) (by assumption) ?_
  rotate_left
  · (intro wz hSw; (try dsimp only at hSw); go_simp; try with_reducible rfl)
  simp only [Act.put, List.setIfInBounds_toArray, List.set_cons_zero, List.set_cons_succ]
  refine wpAnyH_take (i := 12) (oi := ({ dst := some 17, op := Op.binOp BinOp.eql 3 (Operand.tmp 16) (Operand.const (Value.int IntKind.i64 2)) 3, type := 4, pos := "law.go:44", after := #[{ on := 11, ground := Ground.data }, { on := 8, ground := Ground.guard }], guard := some (8, true) } : Oper)) (v := ?_) rfl (by kernel_rfl) (by kernel_rfl) (by kernel_rfl) (fun _ _ _ h => h) (Or.inl ⟨by rfl, ?_⟩) (by assumption) ?_
  rotate_left
  · (intro wz hSw; (try dsimp only at hSw); go_simp; try with_reducible rfl)
  simp only [Act.put, List.setIfInBounds_toArray, List.set_cons_zero, List.set_cons_succ]
  refine wpAnyH_take (i := 13) (oi := ({ dst := some 18, op := Op.pick (Operand.tmp 13) (Operand.tmp 17) (Operand.const (Value.bool false)), type := 4, pos := "law.go:44", after := #[{ on := 8, ground := Ground.data }, { on := 12, ground := Ground.data }], guard := none } : Oper)) (v := ?_) rfl (by kernel_rfl) (by kernel_rfl) (by kernel_rfl) (fun _ _ _ h => h) (Or.inl ⟨by rfl, ?_⟩) (by assumption) ?_
  rotate_left
  · (intro wz hSw; (try dsimp only at hSw); go_simp; try with_reducible rfl)
  simp only [Act.put, List.setIfInBounds_toArray, List.set_cons_zero, List.set_cons_succ]
  refine wpAnyH_take (i := 14) (oi := ({ dst := some 19, op := Op.move (Operand.tmp 18), type := 4, pos := "law.go:44", after := #[{ on := 13, ground := Ground.data }, { on := 8, ground := Ground.chain }], guard := none } : Oper)) (v := ?_) rfl (by kernel_rfl) (by kernel_rfl) (by kernel_rfl) (fun _ _ _ h => h) (Or.inl ⟨by rfl, ?_⟩) (by assumption) ?_
  rotate_left
  · (intro wz hSw; (try dsimp only at hSw); go_simp; try with_reducible rfl)
  simp only [Act.put, List.setIfInBounds_toArray, List.set_cons_zero, List.set_cons_succ]
  refine wpAnyH_take (i := 15) (oi := ({ dst := some 20, op := Op.fieldAddr 29 (Operand.tmp 1) 1, type := 0, pos := "law.go:44", after := #[{ on := 14, ground := Ground.guard }], guard := some (14, true) } : Oper)) (v := ?_) rfl (by kernel_rfl) (by kernel_rfl) (by kernel_rfl) (fun _ _ _ h => h) (Or.inl ⟨by rfl, ?_⟩) (by assumption) ?_
  rotate_left
  · (intro wz hSw; (try dsimp only at hSw); go_simp; try with_reducible rfl)
  simp only [Act.put, List.setIfInBounds_toArray, List.set_cons_zero, List.set_cons_succ]
  refine wpAnyH_take (i := 16) (oi := ({ dst := some 21, op := Op.load 27 (Operand.tmp 20), type := 27, pos := "law.go:44", after := #[{ on := 15, ground := Ground.data }, { on := 14, ground := Ground.guard }], guard := some (14, true) } : Oper)) (v := ?_) rfl (by kernel_rfl) (by kernel_rfl) (by kernel_rfl) (fun _ _ _ h => h) (Or.inl ⟨by rfl, ?_⟩) (by assumption) ?_
  rotate_left
  · (intro wz hSw; (try dsimp only at hSw); go_simp; try with_reducible rfl)
  simp only [Act.put, List.setIfInBounds_toArray, List.set_cons_zero, List.set_cons_succ]
  refine wpAnyH_take (i := 17) (oi := ({ dst := some 22, op := Op.indexAddr 27 (Operand.tmp 21) (Operand.const (Value.int IntKind.i64 1)), type := 0, pos := "law.go:44", after := #[{ on := 16, ground := Ground.data }, { on := 14, ground := Ground.guard }], guard := some (14, true) } : Oper)) (v := ?_) rfl (by kernel_rfl) (by kernel_rfl) (by kernel_rfl) (fun _ _ _ h => h) (Or.inl ⟨by rfl, ?_⟩) (by assumption) ?_
  rotate_left
  · (intro wz hSw; (try dsimp only at hSw); go_simp; try with_reducible rfl)
  simp only [Act.put, List.setIfInBounds_toArray, List.set_cons_zero, List.set_cons_succ]
  refine wpAnyH_take (i := 18) (oi := ({ dst := some 23, op := Op.load 53 (Operand.tmp 22), type := 53, pos := "law.go:44", after := #[{ on := 17, ground := Ground.data }, { on := 14, ground := Ground.guard }], guard := some (14, true) } : Oper)) (v := ?_) rfl (by kernel_rfl) (by kernel_rfl) (by kernel_rfl) (fun _ _ _ h => h) (Or.inl ⟨by rfl, ?_⟩) (by assumption) ?_
  rotate_left
  · (intro wz hSw; (try dsimp only at hSw); go_simp; try with_reducible rfl)
  simp only [Act.put, List.setIfInBounds_toArray, List.set_cons_zero, List.set_cons_succ]
  refine wpAnyH_ready (rs := [19]) (by kernel_rfl) (by simp) ?_
  refine AllReadyH.cons (o := ({ dst := some 24, op := Op.call { callee := Callee.value (Operand.func 41), args := #[Operand.const (Value.int IntKind.i64 0)], argTypes := #[2] }, type := 53, pos := "law.go:44", after := #[{ on := 14, ground := Ground.chain }, { on := 14, ground := Ground.guard }], guard := some (14, true) } : Oper)) rfl (fun K hK => ?_) AllReadyH.nil
  · go_simp
    go_at_call 41
    refine (cOf _).mono ?_
    rintro e w1 ⟨rfl, hb1⟩
    have b1 := hide (b0.out.trans (hb1.mono b0.out.size))
    refine hK.out _ _ (HS.out _ b1.out) (fun hH1 => ?_)
    clear hK K hb1
    refine wpAnyH_take (i := 20) (oi := ({ dst := some 25, op := Op.binOp BinOp.eql 53 (Operand.tmp 23) (Operand.tmp 24) 53, type := 4, pos := "law.go:44", after := #[{ on := 18, ground := Ground.data }, { on := 19, ground := Ground.data }, { on := 14, ground := Ground.guard }], guard := some (14, true) } : Oper)) (v := ?_) rfl (by kernel_rfl) (by kernel_rfl) (by kernel_rfl) (fun _ _ _ h => h) (Or.inl ⟨by rfl, ?_⟩) (by assumption) ?_
    rotate_left
    · (intro wz hSw; (try dsimp only at hSw); go_simp; try with_reducible rfl)
    simp only [Act.put, List.setIfInBounds_toArray, List.set_cons_zero, List.set_cons_succ]
    refine wpAnyH_take (i := 21) (oi := ({ dst := some 26, op := Op.pick (Operand.tmp 19) (Operand.tmp 25) (Operand.const (Value.bool false)), type := 4, pos := "law.go:44", after := #[{ on := 14, ground := Ground.data }, { on := 20, ground := Ground.data }], guard := none } : Oper)) (v := ?_) rfl (by kernel_rfl) (by kernel_rfl) (by kernel_rfl) (fun _ _ _ h => h) (Or.inl ⟨by rfl, ?_⟩) (by assumption) ?_
    rotate_left
    · (intro wz hSw; (try dsimp only at hSw); go_simp; try with_reducible rfl)
    simp only [Act.put, List.setIfInBounds_toArray, List.set_cons_zero, List.set_cons_succ]
    refine wpAnyH_take (i := 22) (oi := ({ dst := some 27, op := Op.move (Operand.tmp 26), type := 4, pos := "law.go:44", after := #[{ on := 21, ground := Ground.data }, { on := 19, ground := Ground.chain }], guard := none } : Oper)) (v := ?_) rfl (by kernel_rfl) (by kernel_rfl) (by kernel_rfl) (fun _ _ _ h => h) (Or.inl ⟨by rfl, ?_⟩) (by assumption) ?_
    rotate_left
    · (intro wz hSw; (try dsimp only at hSw); go_simp; try with_reducible rfl)
    simp only [Act.put, List.setIfInBounds_toArray, List.set_cons_zero, List.set_cons_succ]
    refine wpAnyH_take (i := 23) (oi := ({ dst := some 28, op := Op.fieldAddr 29 (Operand.tmp 1) 2, type := 0, pos := "law.go:44", after := #[{ on := 22, ground := Ground.guard }], guard := some (22, true) } : Oper)) (v := ?_) rfl (by kernel_rfl) (by kernel_rfl) (by kernel_rfl) (fun _ _ _ h => h) (Or.inl ⟨by rfl, ?_⟩) (by assumption) ?_
    rotate_left
    · (intro wz hSw; (try dsimp only at hSw); go_simp; try with_reducible rfl)
    simp only [Act.put, List.setIfInBounds_toArray, List.set_cons_zero, List.set_cons_succ]
    refine wpAnyH_take (i := 24) (oi := ({ dst := some 29, op := Op.load 23 (Operand.tmp 28), type := 23, pos := "law.go:44", after := #[{ on := 23, ground := Ground.data }, { on := 22, ground := Ground.guard }], guard := some (22, true) } : Oper)) (v := ?_) rfl (by kernel_rfl) (by kernel_rfl) (by kernel_rfl) (fun _ _ _ h => h) (Or.inl ⟨by rfl, ?_⟩) (by assumption) ?_
    rotate_left
    · (intro wz hSw; (try dsimp only at hSw); go_simp; try with_reducible rfl)
    simp only [Act.put, List.setIfInBounds_toArray, List.set_cons_zero, List.set_cons_succ]
    refine wpAnyH_take (i := 25) (oi := ({ dst := some 30, op := Op.indexAddr 23 (Operand.tmp 29) (Operand.const (Value.int IntKind.i64 1)), type := 0, pos := "law.go:44", after := #[{ on := 24, ground := Ground.data }, { on := 22, ground := Ground.guard }], guard := some (22, true) } : Oper)) (v := ?_) rfl (by kernel_rfl) (by kernel_rfl) (by kernel_rfl) (fun _ _ _ h => h) (Or.inl ⟨by rfl, ?_⟩) (by assumption) ?_
    rotate_left
    · (intro wz hSw; (try dsimp only at hSw); go_simp; try with_reducible rfl)
    simp only [Act.put, List.setIfInBounds_toArray, List.set_cons_zero, List.set_cons_succ]
    refine wpAnyH_take (i := 26) (oi := ({ dst := some 31, op := Op.load 38 (Operand.tmp 30), type := 38, pos := "law.go:44", after := #[{ on := 25, ground := Ground.data }, { on := 22, ground := Ground.guard }], guard := some (22, true) } : Oper)) (v := ?_) rfl (by kernel_rfl) (by kernel_rfl) (by kernel_rfl) (fun _ _ _ h => h) (Or.inl ⟨by rfl, ?_⟩) (by assumption) ?_
    rotate_left
    · (intro wz hSw; (try dsimp only at hSw); go_simp; try with_reducible rfl)
    simp only [Act.put, List.setIfInBounds_toArray, List.set_cons_zero, List.set_cons_succ]
    refine wpAnyH_take (i := 27) (oi := ({ dst := some 32, op := Op.call { callee := Callee.builtin Builtin.len, args := #[Operand.tmp 31], argTypes := #[38] }, type := 3, pos := "law.go:44", after := #[{ on := 26, ground := Ground.data }, { on := 22, ground := Ground.guard }], guard := some (22, true) } : Oper)) (v := ?_) rfl (by kernel_rfl) (by kernel_rfl) (by kernel_rfl) (fun _ _ _ h => h) (Or.inl ⟨by rfl, ?_⟩) (by assumption) ?_
    rotate_left
    · (intro wz hSw; (try dsimp only at hSw); go_simp; try with_reducible rfl)
    simp only [Act.put, List.setIfInBounds_toArray, List.set_cons_zero, List.set_cons_succ]
    refine wpAnyH_take (i := 28) (oi := ({ dst := some 33, op := Op.binOp BinOp.eql 3 (Operand.tmp 32) (Operand.const (Value.int IntKind.i64 1)) 3, type := 4, pos := "law.go:44", after := #[{ on := 27, ground := Ground.data }, { on := 22, ground := Ground.guard }], guard := some (22, true) } : Oper)) (v := ?_) rfl (by kernel_rfl) (by kernel_rfl) (by kernel_rfl) (fun _ _ _ h => h) (Or.inl ⟨by rfl, ?_⟩) (by assumption) ?_
    rotate_left
    · (intro wz hSw; (try dsimp only at hSw); go_simp; try with_reducible rfl)
    simp only [Act.put, List.setIfInBounds_toArray, List.set_cons_zero, List.set_cons_succ]
    refine wpAnyH_take (i := 29) (oi := ({ dst := some 34, op := Op.pick (Operand.tmp 27) (Operand.tmp 33) (Operand.const (Value.bool false)), type := 4, pos := "law.go:44", after := #[{ on := 22, ground := Ground.data }, { on := 28, ground := Ground.data }], guard := none } : Oper)) (v := ?_) rfl (by kernel_rfl) (by kernel_rfl) (by kernel_rfl) (fun _ _ _ h => h) (Or.inl ⟨by rfl, ?_⟩) (by assumption) ?_
    rotate_left
    · (intro wz hSw; (try dsimp only at hSw); go_simp; try with_reducible rfl)
    simp only [Act.put, List.setIfInBounds_toArray, List.set_cons_zero, List.set_cons_succ]
    refine wpAnyH_take (i := 30) (oi := ({ dst := some 35, op := Op.move (Operand.tmp 34), type := 4, pos := "law.go:44", after := #[{ on := 29, ground := Ground.data }, { on := 22, ground := Ground.chain }], guard := none } : Oper)) (v := ?_) rfl (by kernel_rfl) (by kernel_rfl) (by kernel_rfl) (fun _ _ _ h => h) (Or.inl ⟨by rfl, ?_⟩) (by assumption) ?_
    rotate_left
    · (intro wz hSw; (try dsimp only at hSw); go_simp; try with_reducible rfl)
    simp only [Act.put, List.setIfInBounds_toArray, List.set_cons_zero, List.set_cons_succ]
    refine wpAnyH_take (i := 31) (oi := ({ dst := some 36, op := Op.fieldAddr 29 (Operand.tmp 1) 2, type := 0, pos := "law.go:44", after := #[{ on := 30, ground := Ground.guard }], guard := some (30, true) } : Oper)) (v := ?_) rfl (by kernel_rfl) (by kernel_rfl) (by kernel_rfl) (fun _ _ _ h => h) (Or.inl ⟨by rfl, ?_⟩) (by assumption) ?_
    rotate_left
    · (intro wz hSw; (try dsimp only at hSw); go_simp; try with_reducible rfl)
    simp only [Act.put, List.setIfInBounds_toArray, List.set_cons_zero, List.set_cons_succ]
    refine wpAnyH_take (i := 32) (oi := ({ dst := some 37, op := Op.load 23 (Operand.tmp 36), type := 23, pos := "law.go:44", after := #[{ on := 31, ground := Ground.data }, { on := 30, ground := Ground.guard }], guard := some (30, true) } : Oper)) (v := ?_) rfl (by kernel_rfl) (by kernel_rfl) (by kernel_rfl) (fun _ _ _ h => h) (Or.inl ⟨by rfl, ?_⟩) (by assumption) ?_
    rotate_left
    · (intro wz hSw; (try dsimp only at hSw); go_simp; try with_reducible rfl)
    simp only [Act.put, List.setIfInBounds_toArray, List.set_cons_zero, List.set_cons_succ]
    refine wpAnyH_take (i := 33) (oi := ({ dst := some 38, op := Op.indexAddr 23 (Operand.tmp 37) (Operand.const (Value.int IntKind.i64 1)), type := 0, pos := "law.go:44", after := #[{ on := 32, ground := Ground.data }, { on := 30, ground := Ground.guard }], guard := some (30, true) } : Oper)) (v := ?_) rfl (by kernel_rfl) (by kernel_rfl) (by kernel_rfl) (fun _ _ _ h => h) (Or.inl ⟨by rfl, ?_⟩) (by assumption) ?_
    rotate_left
    · (intro wz hSw; (try dsimp only at hSw); go_simp; try with_reducible rfl)
    simp only [Act.put, List.setIfInBounds_toArray, List.set_cons_zero, List.set_cons_succ]
    refine wpAnyH_take (i := 34) (oi := ({ dst := some 39, op := Op.load 38 (Operand.tmp 38), type := 38, pos := "law.go:44", after := #[{ on := 33, ground := Ground.data }, { on := 30, ground := Ground.guard }], guard := some (30, true) } : Oper)) (v := ?_) rfl (by kernel_rfl) (by kernel_rfl) (by kernel_rfl) (fun _ _ _ h => h) (Or.inl ⟨by rfl, ?_⟩) (by assumption) ?_
    rotate_left
    · (intro wz hSw; (try dsimp only at hSw); go_simp; try with_reducible rfl)
    simp only [Act.put, List.setIfInBounds_toArray, List.set_cons_zero, List.set_cons_succ]
    refine wpAnyH_take (i := 35) (oi := ({ dst := some 40, op := Op.indexAddr 38 (Operand.tmp 39) (Operand.const (Value.int IntKind.i64 0)), type := 0, pos := "law.go:44", after := #[{ on := 34, ground := Ground.data }, { on := 30, ground := Ground.guard }], guard := some (30, true) } : Oper)) (v := ?_) rfl (by kernel_rfl) (by kernel_rfl) (by kernel_rfl) (fun _ _ _ h => h) (Or.inl ⟨by rfl, ?_⟩) (by assumption) ?_
    rotate_left
    · (intro wz hSw; (try dsimp only at hSw); go_simp; try with_reducible rfl)
    simp only [Act.put, List.setIfInBounds_toArray, List.set_cons_zero, List.set_cons_succ]
    refine wpAnyH_take (i := 36) (oi := ({ dst := some 41, op := Op.load 3 (Operand.tmp 40), type := 3, pos := "law.go:44", after := #[{ on := 35, ground := Ground.data }, { on := 30, ground := Ground.guard }], guard := some (30, true) } : Oper)) (v := ?_) rfl (by kernel_rfl) (by kernel_rfl) (by kernel_rfl) (fun _ _ _ h => h) (Or.inl ⟨by rfl, ?_⟩) (by assumption) ?_
    rotate_left
    · (intro wz hSw; (try dsimp only at hSw); go_simp; try with_reducible rfl)
    simp only [Act.put, List.setIfInBounds_toArray, List.set_cons_zero, List.set_cons_succ]
    refine wpAnyH_take (i := 37) (oi := ({ dst := some 42, op := Op.binOp BinOp.eql 3 (Operand.tmp 41) (Operand.const (Value.int IntKind.i64 6)) 3, type := 4, pos := "law.go:44", after := #[{ on := 36, ground := Ground.data }, { on := 30, ground := Ground.guard }], guard := some (30, true) } : Oper)) (v := ?_) rfl (by kernel_rfl) (by kernel_rfl) (by kernel_rfl) (fun _ _ _ h => h) (Or.inl ⟨by rfl, ?_⟩) (by assumption) ?_
    rotate_left
    · (intro wz hSw; (try dsimp only at hSw); go_simp; try with_reducible rfl)
    simp only [Act.put, List.setIfInBounds_toArray, List.set_cons_zero, List.set_cons_succ]
    refine wpAnyH_take (i := 38) (oi := ({ dst := some 43, op := Op.pick (Operand.tmp 35) (Operand.tmp 42) (Operand.const (Value.bool false)), type := 4, pos := "law.go:44", after := #[{ on := 30, ground := Ground.data }, { on := 37, ground := Ground.data }], guard := none } : Oper)) (v := ?_) rfl (by kernel_rfl) (by kernel_rfl) (by kernel_rfl) (fun _ _ _ h => h) (Or.inl ⟨by rfl, ?_⟩) (by assumption) ?_
    rotate_left
    · (intro wz hSw; (try dsimp only at hSw); go_simp; try with_reducible rfl)
    simp only [Act.put, List.setIfInBounds_toArray, List.set_cons_zero, List.set_cons_succ]
    refine wpAnyH_take (i := 39) (oi := ({ dst := some 44, op := Op.move (Operand.tmp 43), type := 4, pos := "law.go:44", after := #[{ on := 38, ground := Ground.data }, { on := 30, ground := Ground.chain }], guard := none } : Oper)) (v := ?_) rfl (by kernel_rfl) (by kernel_rfl) (by kernel_rfl) (fun _ _ _ h => h) (Or.inl ⟨by rfl, ?_⟩) (by assumption) ?_
    rotate_left
    · (intro wz hSw; (try dsimp only at hSw); go_simp; try with_reducible rfl)
    simp only [Act.put, List.setIfInBounds_toArray, List.set_cons_zero, List.set_cons_succ]
    refine wpAnyH_ready (rs := [40]) (by kernel_rfl) (by simp) ?_
    refine AllReadyH.cons (o := ({ dst := some 45, op := Op.call { callee := Callee.value (Operand.func 37), args := #[], argTypes := #[] }, type := 29, pos := "law.go:44", after := #[{ on := 39, ground := Ground.chain }, { on := 39, ground := Ground.guard }], guard := some (39, true) } : Oper)) rfl (fun K hK => ?_) AllReadyH.nil
    · go_simp
      go_at_call 37
      refine (none_S _).mono ?_
      rintro e w2 ⟨rfl, hb2⟩
      have b2 := hide (b1.out.trans (hb2.mono b1.out.size))
      refine hK.out _ _ (HS.out _ b2.out) (fun hH2 => ?_)
      clear hK K hb2
      refine wpAnyH_take (i := 41) (oi := ({ dst := some 46, op := Op.field 29 (Operand.tmp 45) 0, type := 4, pos := "law.go:44", after := #[{ on := 40, ground := Ground.data }, { on := 39, ground := Ground.guard }], guard := some (39, true) } : Oper)) (v := ?_) rfl (by kernel_rfl) (by kernel_rfl) (by kernel_rfl) (fun _ _ _ h => h) (Or.inl ⟨by rfl, ?_⟩) (by assumption) ?_
      rotate_left
      · (intro wz hSw; (try dsimp only at hSw); go_simp; try with_reducible rfl)
      simp only [Act.put, List.setIfInBounds_toArray, List.set_cons_zero, List.set_cons_succ]
      refine wpAnyH_take (i := 42) (oi := ({ dst := some 47, op := Op.unOp UnOp.not 4 (Operand.tmp 46), type := 4, pos := "law.go:44", after := #[{ on := 41, ground := Ground.data }, { on := 39, ground := Ground.guard }], guard := some (39, true) } : Oper)) (v := ?_) rfl (by kernel_rfl) (by kernel_rfl) (by kernel_rfl) (fun _ _ _ h => h) (Or.inl ⟨by rfl, ?_⟩) (by assumption) ?_
      rotate_left
      · (intro wz hSw; (try dsimp only at hSw); go_simp; try with_reducible rfl)
      simp only [Act.put, List.setIfInBounds_toArray, List.set_cons_zero, List.set_cons_succ]
      refine wpAnyH_take (i := 43) (oi := ({ dst := some 48, op := Op.pick (Operand.tmp 44) (Operand.tmp 47) (Operand.const (Value.bool false)), type := 4, pos := "law.go:44", after := #[{ on := 39, ground := Ground.data }, { on := 42, ground := Ground.data }], guard := none } : Oper)) (v := ?_) rfl (by kernel_rfl) (by kernel_rfl) (by kernel_rfl) (fun _ _ _ h => h) (Or.inl ⟨by rfl, ?_⟩) (by assumption) ?_
      rotate_left
      · (intro wz hSw; (try dsimp only at hSw); go_simp; try with_reducible rfl)
      simp only [Act.put, List.setIfInBounds_toArray, List.set_cons_zero, List.set_cons_succ]
      refine wpAnyH_take (i := 44) (oi := ({ dst := some 49, op := Op.move (Operand.tmp 48), type := 4, pos := "law.go:44", after := #[{ on := 43, ground := Ground.data }, { on := 40, ground := Ground.chain }], guard := none } : Oper)) (v := ?_) rfl (by kernel_rfl) (by kernel_rfl) (by kernel_rfl) (fun _ _ _ h => h) (Or.inl ⟨by rfl, ?_⟩) (by assumption) ?_
      rotate_left
      · (intro wz hSw; (try dsimp only at hSw); go_simp; try with_reducible rfl)
      simp only [Act.put, List.setIfInBounds_toArray, List.set_cons_zero, List.set_cons_succ]
      refine wpAnyH_take (i := 45) (oi := ({ dst := some 50, op := Op.load 29 (Operand.tmp 1), type := 29, pos := "law.go:44", after := #[{ on := 44, ground := Ground.guard }], guard := some (44, true) } : Oper)) (v := ?_) rfl (by kernel_rfl) (by kernel_rfl) (by kernel_rfl) (fun _ _ _ h => h) (Or.inl ⟨by rfl, ?_⟩) (by assumption) ?_
      rotate_left
      · (intro wz hSw; (try dsimp only at hSw); go_simp; try with_reducible rfl)
      simp only [Act.put, List.setIfInBounds_toArray, List.set_cons_zero, List.set_cons_succ]
      refine wpAnyH_ready (rs := [46]) (by kernel_rfl) (by simp) ?_
      refine AllReadyH.cons (o := ({ dst := some 51, op := Op.call { callee := Callee.value (Operand.func 23), args := #[Operand.tmp 50, Operand.const (Value.int IntKind.i64 2), Operand.const (Value.int IntKind.i64 7)], argTypes := #[29, 3, 3] }, type := 4, pos := "law.go:44", after := #[{ on := 45, ground := Ground.data }, { on := 44, ground := Ground.chain }, { on := 44, ground := Ground.guard }], guard := some (44, true) } : Oper)) rfl (fun K hK => ?_) AllReadyH.nil
      · go_simp
        go_at_call 23
        refine (C7.out _ b2.out).mono ?_
        rintro e w3 ⟨rfl, hb3⟩
        have b3 := hide (b2.out.trans (hb3.mono b2.out.size))
        refine hK.out _ _ (HS.out _ b3.out) (fun hH3 => ?_)
        clear hK K hb3
        refine wpAnyH_take (i := 47) (oi := ({ dst := some 52, op := Op.pick (Operand.tmp 49) (Operand.tmp 51) (Operand.const (Value.bool false)), type := 4, pos := "law.go:44", after := #[{ on := 44, ground := Ground.data }, { on := 46, ground := Ground.data }], guard := none } : Oper)) (v := ?_) rfl (by kernel_rfl) (by kernel_rfl) (by kernel_rfl) (fun _ _ _ h => h) (Or.inl ⟨by rfl, ?_⟩) (by assumption) ?_
        rotate_left
        · (intro wz hSw; (try dsimp only at hSw); go_simp; try with_reducible rfl)
        simp only [Act.put, List.setIfInBounds_toArray, List.set_cons_zero, List.set_cons_succ]
        refine wpAnyH_take (i := 48) (oi := ({ dst := some 53, op := Op.move (Operand.tmp 52), type := 4, pos := "law.go:44", after := #[{ on := 47, ground := Ground.data }, { on := 46, ground := Ground.chain }], guard := none } : Oper)) (v := ?_) rfl (by kernel_rfl) (by kernel_rfl) (by kernel_rfl) (fun _ _ _ h => h) (Or.inl ⟨by rfl, ?_⟩) (by assumption) ?_
        rotate_left
        · (intro wz hSw; (try dsimp only at hSw); go_simp; try with_reducible rfl)
        simp only [Act.put, List.setIfInBounds_toArray, List.set_cons_zero, List.set_cons_succ]
        refine wpAnyH_take (i := 49) (oi := ({ dst := some 54, op := Op.load 29 (Operand.tmp 1), type := 29, pos := "law.go:44", after := #[{ on := 48, ground := Ground.guard }], guard := some (48, true) } : Oper)) (v := ?_) rfl (by kernel_rfl) (by kernel_rfl) (by kernel_rfl) (fun _ _ _ h => h) (Or.inl ⟨by rfl, ?_⟩) (by assumption) ?_
        rotate_left
        · (intro wz hSw; (try dsimp only at hSw); go_simp; try with_reducible rfl)
        simp only [Act.put, List.setIfInBounds_toArray, List.set_cons_zero, List.set_cons_succ]
        refine wpAnyH_ready (rs := [50]) (by kernel_rfl) (by simp) ?_
        refine AllReadyH.cons (o := ({ dst := some 55, op := Op.call { callee := Callee.value (Operand.func 23), args := #[Operand.tmp 54, Operand.const (Value.int IntKind.i64 2), Operand.const (Value.int IntKind.i64 6)], argTypes := #[29, 3, 3] }, type := 4, pos := "law.go:44", after := #[{ on := 49, ground := Ground.data }, { on := 48, ground := Ground.chain }, { on := 48, ground := Ground.guard }], guard := some (48, true) } : Oper)) rfl (fun K hK => ?_) AllReadyH.nil
        · go_simp
          go_at_call 23
          refine (C6.out _ b3.out).mono ?_
          rintro e w4 ⟨rfl, hb4⟩
          have b4 := hide (b3.out.trans (hb4.mono b3.out.size))
          refine hK.out _ _ (HS.out _ b4.out) (fun hH4 => ?_)
          clear hK K hb4
          refine wpAnyH_take (i := 51) (oi := ({ dst := some 56, op := Op.unOp UnOp.not 4 (Operand.tmp 55), type := 4, pos := "law.go:44", after := #[{ on := 50, ground := Ground.data }, { on := 48, ground := Ground.guard }], guard := some (48, true) } : Oper)) (v := ?_) rfl (by kernel_rfl) (by kernel_rfl) (by kernel_rfl) (fun _ _ _ h => h) (Or.inl ⟨by rfl, ?_⟩) (by assumption) ?_
          rotate_left
          · (intro wz hSw; (try dsimp only at hSw); go_simp; try with_reducible rfl)
          simp only [Act.put, List.setIfInBounds_toArray, List.set_cons_zero, List.set_cons_succ]
          refine wpAnyH_take (i := 52) (oi := ({ dst := some 57, op := Op.pick (Operand.tmp 53) (Operand.tmp 56) (Operand.const (Value.bool false)), type := 4, pos := "law.go:44", after := #[{ on := 48, ground := Ground.data }, { on := 51, ground := Ground.data }], guard := none } : Oper)) (v := ?_) rfl (by kernel_rfl) (by kernel_rfl) (by kernel_rfl) (fun _ _ _ h => h) (Or.inl ⟨by rfl, ?_⟩) (by assumption) ?_
          rotate_left
          · (intro wz hSw; (try dsimp only at hSw); go_simp; try with_reducible rfl)
          simp only [Act.put, List.setIfInBounds_toArray, List.set_cons_zero, List.set_cons_succ]
          refine wpAnyH_take (i := 53) (oi := ({ dst := some 0, op := Op.assign (Operand.tmp 57), type := 4, pos := "law.go:44", after := #[{ on := 52, ground := Ground.data }, { on := 50, ground := Ground.chain }, { on := 0, ground := Ground.phase }, { on := 1, ground := Ground.phase }, { on := 2, ground := Ground.phase }, { on := 3, ground := Ground.phase }, { on := 4, ground := Ground.phase }, { on := 5, ground := Ground.phase }, { on := 6, ground := Ground.phase }, { on := 7, ground := Ground.phase }, { on := 8, ground := Ground.phase }, { on := 9, ground := Ground.phase }, { on := 10, ground := Ground.phase }, { on := 11, ground := Ground.phase }, { on := 12, ground := Ground.phase }, { on := 13, ground := Ground.phase }, { on := 14, ground := Ground.phase }, { on := 15, ground := Ground.phase }, { on := 16, ground := Ground.phase }, { on := 17, ground := Ground.phase }, { on := 18, ground := Ground.phase }, { on := 19, ground := Ground.phase }, { on := 20, ground := Ground.phase }, { on := 21, ground := Ground.phase }, { on := 22, ground := Ground.phase }, { on := 23, ground := Ground.phase }, { on := 24, ground := Ground.phase }, { on := 25, ground := Ground.phase }, { on := 26, ground := Ground.phase }, { on := 27, ground := Ground.phase }, { on := 28, ground := Ground.phase }, { on := 29, ground := Ground.phase }, { on := 30, ground := Ground.phase }, { on := 31, ground := Ground.phase }, { on := 32, ground := Ground.phase }, { on := 33, ground := Ground.phase }, { on := 34, ground := Ground.phase }, { on := 35, ground := Ground.phase }, { on := 36, ground := Ground.phase }, { on := 37, ground := Ground.phase }, { on := 38, ground := Ground.phase }, { on := 39, ground := Ground.phase }, { on := 40, ground := Ground.phase }, { on := 41, ground := Ground.phase }, { on := 42, ground := Ground.phase }, { on := 43, ground := Ground.phase }, { on := 44, ground := Ground.phase }, { on := 45, ground := Ground.phase }, { on := 46, ground := Ground.phase }, { on := 47, ground := Ground.phase }, { on := 48, ground := Ground.phase }, { on := 49, ground := Ground.phase }, { on := 50, ground := Ground.phase }, { on := 51, ground := Ground.phase }, { on := 52, ground := Ground.phase }], guard := none } : Oper)) (v := ?_) rfl (by kernel_rfl) (by kernel_rfl) (by kernel_rfl) (fun _ _ _ h => h) (Or.inl ⟨by rfl, ?_⟩) (by assumption) ?_
          rotate_left
          · (intro wz hSw; (try dsimp only at hSw); go_simp; try with_reducible rfl)
          simp only [Act.put, List.setIfInBounds_toArray, List.set_cons_zero]
          refine wpAnyH_done (by kernel_rfl) ?_ _
          go_wp2
          go_ret
          exact ⟨by simp, BW.out.trans (b4.out.mono BW.out.size)⟩
end Go.Proofs.Ytmhicllhjiglkaa
namespace Go.Proofs.Ytmhicllhjiglkaa
open Go.RowKit
theorem Rn.st3 {w : World} {N q : Nat} {v : Value} {s : S} (h : Rn w N v s) (hq : q < N) (r : Bool) (va sa : Value) : Rn (st3 w q r va sa) N v s := h.of (fun k hk _ => st3_block w q r va sa k (by omega))
set_option maxRecDepth 100000 in
set_option maxHeartbeats 4000000 in
theorem fix_any (a b : Option Addr) (c d : Nat) (r : Bool) (vs : List R) (ss : List (List Int)) (w : World) (hv : RV w a vs) (hs : RR w b ss) (hvi : ∀ (m : Nat) (x : R), vs[m]? = some x → i64 x.n ∧ i64 x.lo ∧ i64 x.hi) :
    Calls Try.prog 10 #[.agg #[.bool r, .slice a vs.length c, .slice b ss.length d]] w fun e w' => ∃ v, e = .returned v ∧ Below w.heap.size w w' ∧ ∃ s, Rn w' w.heap.size v s ∧ ∃ us, SOk s us 6 70 := by
  have HV := hide hv
  have HR := hide hs
  have cF : ∀ w', Below w.heap.size w w' → Calls Try.prog 38 #[.agg #[.bool r, .slice a vs.length c, .slice b ss.length d], .int .i64 6, .int .i64 70] w' fun e w'' => ∃ v, e = .returned v ∧ Below w'.heap.size w' w'' ∧ ∃ s, Rn w'' w'.heap.size v s ∧ ∃ us, SOk s us 6 70 := fun w' h => fix_S a b c d r vs ss 6 70 w' (hv.keep h) (hs.keep h) hvi (by omega) (by omega) (by omega)
  clear hv hs hvi
  go_enter Try.func10, Try.ntmps10
  go_upto_region 1 with fail
  go_name_world W hW
  obtain ⟨q1, h1⟩ : ∃ z9, z9 = w.heap.size + 1 := ⟨_, rfl⟩
  rw [← h1]
  obtain ⟨q0, h0⟩ : ∃ z9, z9 = w.heap.size := ⟨_, rfl⟩
  rw [← h0]
  obtain ⟨B0, -, B1, F1, u⟩ := boxes2 w _ _ _ _ _ _ _ _ W hW
  have e0 := h0 ▸ B0.c0
  have e1 := h0 ▸ B0.c1
  have e2 := h0 ▸ B0.c2
  rw [← h1] at B1 F1
  have HB1 := hide B1
  have HF1 := hide F1
  have HU := hide u
  have HQ : Hid (w.heap.size ≤ q1) := hide (by omega)
  clear hW B0 B1 F1 h1 h0
  go_wp2_with (go_at_call 38; refine (cF _ HU.out).mono ?_; rintro e wB ⟨v, rfl, hB, s, hR, us, hO⟩; have hR2 := hide hR; obtain ⟨a5, c5, b5, d5, hv5, -⟩ := hR; subst hv5; have z := HB1.out.keep hB; have y := HF1.out.of (hB.block q1 HB1.out.lt); have z0 := z.c0; have z1 := z.c1; have z2 := z.c2; have y0 := y.f0; have y1 := y.f1; have y2 := y.f2; have HZ := hide z; have HBB := hide hB; have HOO := hide hO; clear z y hB hO cF e0 e1 e2)
  have x := HZ.out.put3 s.r (.slice a5 s.vs.length c5) (.slice b5 s.ss.length d5)
  have x0 := x.c0
  have x1 := x.c1
  have x2 := x.c2
  clear z0 z1 z2 y0 y1 y2
  exact bodyPost_ret (by simp [results, Try.results10, go_sem, x0, x1, x2]; try rfl) rfl ⟨_, rfl, st3_below (HU.out.trans (HBB.out.mono HU.out.size)) q1 HQ.out _ _ _, s, (hR2.out.st3 HB1.out.lt _ _ _).mono HU.out.size, us, HOO.out⟩
end Go.Proofs.Ytmhicllhjiglkaa
namespace Go.Proofs.Ytmhicllhjiglkaa
open Go.RowKit
theorem wpList_appY {ops : Array Oper} {rest : List Oper} {o : Oper} {a : Act} {Q : Exit → Act → World → Prop} (w0 w1 : World) (hgd : o.guard = none) (s x : Operand)
    (ho : o.op = .call { callee := .builtin .append, args := #[s, x], argTypes := #[38, 38] })
    (v : Value) (ps : List Int) (hS : St w0 w1 v ps) (hs : a.eval s = v) (az : Option Addr) (c : Nat) (zs : List Int) (hx : a.eval x = .slice az zs.length c) (hz : Ri w1 az zs) (hn : az = none → c = 0 ∧ zs = []) (hl : ps.length + zs.length ≤ 1000000)
    (h : ∀ a' c' w', St w0 w' (.slice a' (ps.length + zs.length) c') (ps ++ zs) → w1.grownBy w' v.ownBlock → wpList Try.prog ops Q rest (a.put o.dst (.slice a' (ps.length + zs.length) c')) w') : wpList Try.prog ops Q (o :: rest) a w1 :=
  wpList_plain hgd fun _ hK => wp_appY w0 w1 s x ho v ps hS hs az c zs hx hz hn hl fun a' c' w' h2 h3 => hK _ _ (h a' c' w' h2 h3)
/-- Values more -/
theorem wpList_appVs {ops : Array Oper} {rest : List Oper} {o : Oper} {a : Act} {Q : Exit → Act → World → Prop} (w1 : World) (B : Nat) (t T : TypeId) (ht : Try.prog.underlying t = some (.slice T)) (hI : (Try.prog.info? T).map (fun i => (i.zero, i.size, i.bytes)) = some (some zV, 6, 48)) (hgd : o.guard = none) (s x : Operand)
    (ho : o.op = .call { callee := .builtin .append, args := #[s, x], argTypes := #[t, t] })
    (v : Value) (vs : List R) (ys : List R) (ad : Addr) (c : Nat) (hO : OwV w1 B T v vs) (hY : RV w1 (some ad) ys) (hs : a.eval s = v) (hx : a.eval x = .slice (some ad) ys.length c) (hl : vs.length + ys.length ≤ 1000000) (hB : B ≤ w1.heap.size)
    (h : ∀ a' c' w', OwV w' B T (.slice a' (vs.length + ys.length) c') (vs ++ ys) → w1.grownBy w' v.ownBlock → wpList Try.prog ops Q rest (a.put o.dst (.slice a' (vs.length + ys.length) c')) w') : wpList Try.prog ops Q (o :: rest) a w1 := by
  obtain ⟨i0, hi, hz0, hz1, hz2⟩ := info_parts hI
  refine wpList_append_own _ hgd s x t ho B T i0 zV 6 48 ht hi hz0 hz1 hz2 rfl (by decide) v vs.length (VR vs) hs hO ad ys.length c (VR ys) hx (VR_len ys) ?_ (VR_one ys) ?_ ?_ ?_ ?_
  · intro j u hj
    have hjl : j < ys.length * 6 := by
      rcases Nat.lt_or_ge j (VR ys).length with t | t
      · rw [VR_len] at t; exact t
      · rw [List.getElem?_eq_none t] at hj; cases hj
    have hm : j / 6 < ys.length := by omega
    obtain ⟨b, of, e, h6⟩ := hY (j / 6) (ys[j / 6]) (by simp [hm])
    obtain rfl := Option.some.inj e
    rw [addr_none]
    have hx2 := VR_at (ys[j / 6]) (j % 6) (Nat.mod_lt _ (by omega)) ys (j / 6) (by simp [hm])
    have ej : j / 6 * 6 + j % 6 = j := by omega
    rw [ej, hj] at hx2
    have ea : of + j = of + j / 6 * 6 + j % 6 := by omega
    rw [ea]
    have h7 : j % 6 = 0 ∨ j % 6 = 1 ∨ j % 6 = 2 ∨ j % 6 = 3 ∨ j % 6 = 4 ∨ j % 6 = 5 := by omega
    rcases h7 with h7 | h7 | h7 | h7 | h7 | h7 <;> rw [h7] at hx2 ⊢ <;> simp at hx2 <;> subst hx2
    · exact h6.c0
    · exact h6.c1
    · exact h6.c2
    · exact h6.c3
    · exact h6.c4
    · exact h6.c5
  · unfold maxLen; omega
  · omega
  · exact hB
  · intro v' w' hown hgrow _
    have hT : OwV w' B T v' (vs ++ ys) := by
      unfold OwV
      rw [VR_append]
      simpa using hown
    obtain ⟨a', c', rfl, _⟩ := hT.slice
    simp only [List.length_append] at hT ⊢
    exact h a' c' w' hT hgrow
theorem OwV.lit0 (w : World) (T : TypeId) : OwV (w.alloc (.cells #[] T)) w.heap.size T (.slice (some ⟨w.heap.size, 0, none⟩) 0 0) [] := by
  refine ⟨rfl, Or.inr ⟨w.heap.size, 0, #[], rfl, Nat.le_refl _, ?_, Nat.le_refl _, by unfold maxLen; omega, rfl, rfl⟩⟩
  show (w.heap.push _)[w.heap.size]? = _
  simp
set_option maxRecDepth 100000 in
set_option maxHeartbeats 4000000 in
theorem cloneI (l : List Int) (a : Option Addr) (c : Nat) (w : World) (hr : Ri w a l) (hc : l.length ≤ c) (hn : a = none → c = 0) (hl : l.length ≤ 100000) :
    Calls Try.prog 58 #[.slice a l.length c] w fun e w' => ∃ v, e = .returned v ∧ St w w' v l := by
  have HR := hide (hr.keep' ((Below.refl _ _).alloc (Nat.le_refl _) (.cells #[] 3)))
  clear hr
  cases a with
  | none =>
    obtain rfl := hn rfl
    obtain rfl : l = [] := List.eq_nil_of_length_eq_zero (by omega)
    have hnil : ∀ W, (binOp .eql 38 (.slice none 0 0) (.slice none 0 0)).run Try.prog W = .ok (.bool true) W := fun W => Lib.run_eql_slice_nil_nil W _ _ Try.underlying38
    go_enter Try.func58, Try.ntmps58
    go_wp2
    go_ret
    exact ⟨_, rfl, St.start w⟩
  | some ad =>
    have hnil : ∀ W, (binOp .eql 38 (.slice (some ad) l.length c) (.slice none 0 0)).run Try.prog W = .ok (.bool false) W := fun W => Lib.run_eql_slice_some_nil W _ _ _ Try.underlying38
    go_enter Try.func58, Try.ntmps58
    go_wp2_with (at_builtin; refine wpList_appY w (w.alloc (.cells #[] 3)) rfl (.tmp 5) (.tmp 6) rfl _ [] (St.lit0 w) rfl (some ad) c l rfl HR.out (fun e => by cases e) (by simp; omega) ?_; intro a2 c2 w2 hS hg; simp only [List.length_nil, Nat.zero_add, List.nil_append] at hS ⊢; replace hS := hide hS; clear hg)
    go_ret
    exact ⟨_, rfl, hS.out⟩
set_option maxRecDepth 100000 in
set_option maxHeartbeats 4000000 in
theorem cloneV (vs : List R) (a : Option Addr) (c : Nat) (w : World) (hr : RV w a vs) (hc : vs.length ≤ c) (hn : a = none → c = 0) (hl : vs.length ≤ 100000) :
    Calls Try.prog 57 #[.slice a vs.length c] w fun e w' => ∃ v, e = .returned v ∧ OwV w' w.heap.size 53 v vs ∧ Below w.heap.size w w' := by
  have HR := hide (hr.keep ((Below.refl _ _).alloc (Nat.le_refl _) (.cells #[] 53)))
  clear hr
  cases a with
  | none =>
    obtain rfl := hn rfl
    obtain rfl : vs = [] := List.eq_nil_of_length_eq_zero (by omega)
    have hnil : ∀ W, (binOp .eql 27 (.slice none 0 0) (.slice none 0 0)).run Try.prog W = .ok (.bool true) W := fun W => Lib.run_eql_slice_nil_nil W _ _ Try.underlying27
    go_enter Try.func57, Try.ntmps57
    go_wp2
    go_ret
    exact ⟨_, rfl, OwV.nil _ _ _, Below.refl _ _⟩
  | some ad =>
    have hnil : ∀ W, (binOp .eql 27 (.slice (some ad) vs.length c) (.slice none 0 0)).run Try.prog W = .ok (.bool false) W := fun W => Lib.run_eql_slice_some_nil W _ _ _ Try.underlying27
    have hO := hide (OwV.lit0 w 53)
    go_enter Try.func57, Try.ntmps57
    go_wp2_with (at_builtin; refine wpList_appVs (w.alloc (.cells #[] 53)) w.heap.size 27 53 Try.underlying27 info53p rfl (.tmp 5) (.tmp 6) rfl _ [] vs ad c hO.out HR.out rfl rfl (by simp; omega) (by simp) ?_; intro a2 c2 w2 hS hg; simp only [List.length_nil, Nat.zero_add, List.nil_append] at hS ⊢; replace hS := hide hS; replace hg := hide hg)
    go_ret
    exact ⟨_, rfl, hS.out, ((Below.refl _ _).alloc (Nat.le_refl _) _).grown hg.out (by simp) (fun k hk => (hO.out.lt k hk).1)⟩
end Go.Proofs.Ytmhicllhjiglkaa
