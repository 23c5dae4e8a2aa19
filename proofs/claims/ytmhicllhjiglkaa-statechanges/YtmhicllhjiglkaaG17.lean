import Derived.Test.YtmhicllhjiglkaaG14
import Derived.Test.YtmhicllhjiglkaaG15
import Derived.Test.YtmhicllhjiglkaaG16
import Derived.Test.YtmhicllhjiglkaaG08
import Derived.Test.YtmhicllhjiglkaaG05
namespace Go.Proofs.Ytmhicllhjiglkaa
open Go.RowKit
theorem boxes3t (w : World) (r : Bool) (va sa : Value) (r1 : Bool) (va1 sa1 : Value) (i : Int) (x : R) (st nu : Int) (t0 t1 t2 : TypeId) :
    ∀ W, ((w.alloc (.cells #[.bool r, va, sa] t0)).alloc (.cells #[.bool r1, va1, sa1] t1)).alloc (.cells #[.int .i64 i, .int .i64 x.s, .bool x.k, .int .i64 x.n, .int .i64 x.lo, .int .i64 x.hi, .int .i64 x.p, .int .i64 st, .int .i64 nu] t2) = W →
    Tw w.heap.size (w.heap.size + 1 + 1 + 1) w W W w.heap.size (w.heap.size + 1) r va sa r1 va1 sa1 ∧ Ch9 W (w.heap.size + 1 + 1) i x st nu := by
  rintro W rfl
  have sz : ∀ (u : World) (o : Obj), (u.alloc o).heap.size = u.heap.size + 1 := fun u o => by simp
  obtain ⟨B0, F0, B1, F1, u⟩ := boxes2 w r va sa r1 va1 sa1 t0 t1 _ rfl
  have hs : ((w.alloc (.cells #[.bool r, va, sa] t0)).alloc (.cells #[.bool r1, va1, sa1] t1)).heap.size = w.heap.size + 1 + 1 := by rw [sz, sz]
  generalize (w.alloc (.cells #[.bool r, va, sa] t0)).alloc (.cells #[.bool r1, va1, sa1] t1) = A at *
  have u3 : Below A.heap.size A (A.alloc (.cells #[.int .i64 i, .int .i64 x.s, .bool x.k, .int .i64 x.n, .int .i64 x.lo, .int .i64 x.hi, .int .i64 x.p, .int .i64 st, .int .i64 nu] t2)) := (Below.refl _ _).alloc (Nat.le_refl _) _
  refine ⟨⟨B0.keep u3, F0.of (u3.block _ B0.lt), B1.keep u3, F1.of (u3.block _ B1.lt), u.trans (u3.mono u.size), Nat.le_refl _, Nat.le_succ _, by omega, by omega, by omega, by rw [sz, hs]; exact Nat.le_refl _, fun _ _ _ _ => rfl⟩, ?_⟩
  rw [← hs]
  exact ⟨by simp, by simp, by simp, by simp, by simp, by simp, by simp, by simp, by simp⟩
theorem withinT9 {v1 v2 : Value} {x y : VS} {n m : Nat} {w : World} (h1 : Rs w v1 x.raw) (h2 : Rs w v2 y.raw) (k1 : VOk n x) (k2 : VOk m y) (hn : n ≤ 5000) (hw : withinVS x y = true) :
    Calls Try.prog 18 #[v1, v2] w fun e w' => e = .returned (.bool true) ∧ Below w.heap.size w w' := by
  have t := within_S h1 h2 k1 k2 hn
  rw [hw] at t
  exact t
/-- all that stands behind 'x, y := ..' -/
structure Hc (i : Int) (u : V) (w0 w : World) (p k5 k7 k10 k11 : Nat) (q0 : Bool) (v0 s0 : Value) (qx : Bool) (vx sx : Value) (qy : Bool) (vy sy : Value) (x y : VS) : Prop where
  b3 : Bs w p q0 v0 s0
  ra : Rs w (.agg #[.bool q0, v0, s0]) x.raw
  b10 : Bs w k10 qx vx sx
  rx : Rs w (.agg #[.bool qx, vx, sx]) x.raw
  b11 : Bs w k11 qy vy sy
  ry : Rs w (.agg #[.bool qy, vy, sy]) y.raw
  b7 : B6 w k7 0 u.raw
  ci : w.cell? ⟨k5, 0, none⟩ = some (.int .i64 i)
  bel : Below w0.heap.size w0 w
theorem Hc.keep {i : Int} {u : V} {w0 w w' : World} {p k5 k7 k10 k11 : Nat} {q0 : Bool} {v0 s0 : Value} {qx : Bool} {vx sx : Value} {qy : Bool} {vy sy : Value} {x y : VS} (h : Hc i u w0 w p k5 k7 k10 k11 q0 v0 s0 qx vx sx qy vy sy x y) (hb : Below w.heap.size w w') : Hc i u w0 w' p k5 k7 k10 k11 q0 v0 s0 qx vx sx qy vy sy x y :=
  ⟨h.b3.keep hb, h.ra.keep hb, h.b10.keep hb, h.rx.keep hb, h.b11.keep hb, h.ry.keep hb, h.b7.keep hb, (hb.cell (p := ⟨k5, 0, none⟩) (World.block_lt_of_cell? w _ h.ci)).trans h.ci, h.bel.trans (hb.mono h.bel.size)⟩
set_option maxRecDepth 100000 in
set_option maxHeartbeats 16000000 in
theorem stateChanges_walk (a0 g0 a1 g1 : Option Addr) (c0 d0 c1 d1 : Nat) (r0 r1 : Bool) (vs0 vs1 : List R) (ss0 ss1 : List (List Int)) (i : Int) (xr : R) (st nu : Int) (w : World)
    (hv0 : RV w a0 vs0) (hs0 : RR w g0 ss0) (hi0 : ∀ (m : Nat) (x : R), vs0[m]? = some x → i64 x.n ∧ i64 x.lo ∧ i64 x.hi)
    (hv1 : RV w a1 vs1) (hs1 : RR w g1 ss1) (hi1 : ∀ (m : Nat) (x : R), vs1[m]? = some x → i64 x.n ∧ i64 x.lo ∧ i64 x.hi) (j1 : i64 xr.n) (j2 : i64 xr.lo) (j3 : i64 xr.hi) :
    Calls Try.prog 6 #[.agg #[.bool r0, .slice a0 vs0.length c0, .slice g0 ss0.length d0], .agg #[.bool r1, .slice a1 vs1.length c1, .slice g1 ss1.length d1], .agg #[.int .i64 i, .int .i64 xr.s, .bool xr.k, .int .i64 xr.n, .int .i64 xr.lo, .int .i64 xr.hi, .int .i64 xr.p, .int .i64 st, .int .i64 nu]] w fun e w' => e = .returned (.bool true) ∧ Below w.heap.size w w' := by
  have cA := fix_pre9 (c := c0) (d := d0) (r := r0) hv0 hs0 hi0
  have cB := fix_pre9 (c := c1) (d := d1) (r := r1) hv1 hs1 hi1
  have cF := fun w => fix_V xr.s xr.k xr.n xr.lo xr.hi xr.p w
  have HU := hide (fix_ok xr.s xr.k xr.n xr.lo xr.hi xr.p j1 j2 j3)
  generalize fixV xr.s xr.k xr.n xr.lo xr.hi xr.p = u at cF HU
  clear hv0 hs0 hi0 hv1 hs1 hi1 j1 j2 j3
  go_enter Try.func6, Try.ntmps6
  go_upto_region 1 with fail
  go_name_world W hW
  obtain ⟨T0, C0⟩ := boxes3t w _ _ _ _ _ _ _ _ _ _ _ _ _ W hW
  clear hW
  obtain ⟨N, hN⟩ : ∃ z9, z9 = w.heap.size := ⟨_, rfl⟩
  rw [← hN] at T0 C0 cA cB ⊢
  have HN : Hid (N = w.heap.size) := hN
  clear hN
  refine fx6 _ _ _ _ N _ w W N (N + 1) r0 _ _ r1 _ _ (cA _) (cB _) ?_ W T0
  clear cA cB T0
  intro v q0 v0 s0 q1 v1 s1 x y0 T R0 R1 O0 O1
  dsimp only [fxAct6]
  have CV : Ch9 v (N + 1 + 1) i xr st nu := C0.keep (T.fr (N + 1 + 1) (by omega) (by omega) (by omega))
  clear C0
  have OX : Hid (VOk 60 x) := hide (O0.vok (by omega)).2
  have OY : Hid (VOk 60 y0) := hide (O1.vok (by omega)).2
  have LX : Hid (Lim9 x) := hide (fun l hl y hy => by have := (O0.up l hl).2.1 y hy; omega)
  have LY : Hid (Lim9 y0) := hide (fun l hl y hy => by have := (O1.up l hl).2.1 y hy; omega)
  clear O0 O1
  go_upto_region 2 with fail
  refine t2 _ _ _ _ _ _ _ N (N + 1) (N + 1 + 1) i xr st nu u v (fun _ _ d _ _ h => by cases d <;> exact h) CV cF ?_
  clear cF
  intro w2 k7 z1 z2 y17 y18 y19 y20 y21 y22 y23 y24 y25 y26 y27 y28 y29 HB6 hz1 hz2 b2
  dsimp only [a2]
  have HZ2 : Hid (0 ≤ z2 ∧ z2 ≤ 4000) := hide ⟨hz2.1, by omega⟩
  clear hz1 hz2
  go_upto_region 3 with fail
  refine t3 _ _ _ _ _ _ _ _ _ _ _ _ _ _ _ _ _ _ _ _ N (N + 1) (N + 1 + 1) k7 z1 z2 q0 v0 s0 q1 v1 s1 x y0 w2 (fun _ _ d _ _ h => by cases d <;> exact h) (T.b0.keep b2) (T.b1.keep b2) (R0.rs.keep b2) (R1.rs.keep b2) OX.out OY.out ?_
  intro w3 k10 k11 y30 y31 y32 y33 y34 y35 y36 qx vx sx qy vy sy K10 K11 RX RY b3
  dsimp only [a3]
  have OJ := hide (tog_ok join_ok OX.out OY.out)
  have LJ := hide (LX.out.tog joinV LY.out)
  have WJ : Hid ((togV joinV x y0).us.length = x.us.length → withinVS x (togV joinV x y0) = true) := hide (within_tog9 OX.out OY.out)
  generalize togV joinV x y0 = y at *
  have HA : Hid (Hc i u w w3 N (N + 1 + 1) k7 k10 k11 q0 v0 s0 qx vx sx qy vy sy x y) := hide ⟨(T.b0.keep b2).keep b3, (R0.rs.keep b2).keep b3, K10, RX, K11, RY, HB6.keep b3, (b3.cell (p := ⟨N + 1 + 1, 0, none⟩) (World.block_lt_of_cell? w2 _ (CV.keep (b2.block _ (World.block_lt_of_cell? v _ CV.c0))).c0)).trans (CV.keep (b2.block _ (World.block_lt_of_cell? v _ CV.c0))).c0, HN.out ▸ (T.bel.trans ((b2.trans (b3.mono b2.size)).mono (Nat.le_trans (by omega) T.le)))⟩
  clear T R0 R1 K10 K11 RX RY b2 b3 HB6 CV LY OY
  go_upto_region 4 with fail
  have HS : Hid (∀ w', Below w3.heap.size w3 w' → (w'.cell? ⟨N, 0, none⟩ = some (.bool q0) ∧ w'.cell? ⟨N, 1, none⟩ = some (v0) ∧ w'.cell? ⟨N, 2, none⟩ = some (s0) ∧ w'.cell? ⟨k10, 0, none⟩ = some (.bool qx) ∧ w'.cell? ⟨k10, 1, none⟩ = some (vx) ∧ w'.cell? ⟨k10, 2, none⟩ = some (sx) ∧ w'.cell? ⟨k7, 0, none⟩ = some (.int .i64 (up u.s)) ∧ w'.cell? ⟨k7, 1, none⟩ = some (.bool u.k) ∧ w'.cell? ⟨k7, 2, none⟩ = some (.int .i64 u.n) ∧ w'.cell? ⟨k7, 3, none⟩ = some (.int .i64 u.lo) ∧ w'.cell? ⟨k7, 4, none⟩ = some (.int .i64 u.hi) ∧ w'.cell? ⟨k7, 5, none⟩ = some (.int .i64 (up u.p)) ∧ w'.cell? ⟨(N + 1 + 1), 0, none⟩ = some (.int .i64 i))) := hide (fun w' h => by have t := HA.out.keep h; exact ⟨t.b3.c0, t.b3.c1, t.b3.c2, t.b10.c0, t.b10.c1, t.b10.c2, t.b7.c0, t.b7.c1, t.b7.c2, t.b7.c3, t.b7.c4, t.b7.c5, t.ci⟩)
  refine wp_region_held_drew (S := fun w' => w'.cell? ⟨N, 0, none⟩ = some (.bool q0) ∧ w'.cell? ⟨N, 1, none⟩ = some (v0) ∧ w'.cell? ⟨N, 2, none⟩ = some (s0) ∧ w'.cell? ⟨k10, 0, none⟩ = some (.bool qx) ∧ w'.cell? ⟨k10, 1, none⟩ = some (vx) ∧ w'.cell? ⟨k10, 2, none⟩ = some (sx) ∧ w'.cell? ⟨k7, 0, none⟩ = some (.int .i64 (up u.s)) ∧ w'.cell? ⟨k7, 1, none⟩ = some (.bool u.k) ∧ w'.cell? ⟨k7, 2, none⟩ = some (.int .i64 u.n) ∧ w'.cell? ⟨k7, 3, none⟩ = some (.int .i64 u.lo) ∧ w'.cell? ⟨k7, 4, none⟩ = some (.int .i64 u.hi) ∧ w'.cell? ⟨k7, 5, none⟩ = some (.int .i64 (up u.p)) ∧ w'.cell? ⟨(N + 1 + 1), 0, none⟩ = some (.int .i64 i)) (by kernel_rfl) (HS.out _ (Below.refl _ _).drew) (fun hH0 => ?_)
  obtain ⟨w0, hw0⟩ : ∃ w0, w0 = w3.drew := ⟨_, rfl⟩
  (try rw [← hw0] at hH0)
  rw [← hw0]
  have b0 : Hid (Below w3.heap.size w3 w0) := hw0 ▸ hide (Below.refl _ _).drew
  clear hw0
  refine wpAnyH_ready (rs := [0]) (by kernel_rfl) (by simp) ?_
  refine AllReadyH.cons (o := ({ dst := some 37, op := Op.call { callee := Callee.value (Operand.func 12), args := #[], argTypes := #[] }, type := 4, pos := _, after := _, guard := _ } : Oper)) rfl (fun K hK => ?_) AllReadyH.nil
  · go_simp
    go_at_call 12
    refine (told_any _).mono ?_
    rintro e w1 ⟨rfl, hb1⟩
    have b1 := hide (b0.out.trans (hb1.mono b0.out.size))
    refine hK.out _ _ (HS.out _ b1.out) (fun hH1 => ?_)
    clear hK K hb1
    refine wpAnyH_take (i := 1) (oi := ({ dst := some 38, op := Op.unOp UnOp.not 4 (Operand.tmp 37), type := 4, pos := _, after := _, guard := _ } : Oper)) (v := ?_) rfl (by kernel_rfl) (by kernel_rfl) (by kernel_rfl) (fun _ _ _ h => h) (Or.inl ⟨by rfl, ?_⟩) (by assumption) ?_
    rotate_left
    · (intro wz hSw; (try dsimp only at hSw); go_simp; try with_reducible rfl)
    simp only [Act.put, List.setIfInBounds_toArray, List.set_cons_zero, List.set_cons_succ]
    refine wpAnyH_take (i := 2) (oi := ({ dst := some 39, op := Op.move (Operand.tmp 38), type := 4, pos := _, after := _, guard := _ } : Oper)) (v := ?_) rfl (by kernel_rfl) (by kernel_rfl) (by kernel_rfl) (fun _ _ _ h => h) (Or.inl ⟨by rfl, ?_⟩) (by assumption) ?_
    rotate_left
    · (intro wz hSw; (try dsimp only at hSw); go_simp; try with_reducible rfl)
    simp only [Act.put, List.setIfInBounds_toArray, List.set_cons_zero, List.set_cons_succ]
    refine wpAnyH_take (i := 3) (oi := ({ dst := some 40, op := Op.load 29 (Operand.tmp 10), type := 29, pos := _, after := _, guard := _ } : Oper)) (v := ?_) rfl (by kernel_rfl) (by kernel_rfl) (by kernel_rfl) (fun _ _ _ h => h) (Or.inl ⟨by rfl, ?_⟩) (by assumption) ?_
    rotate_left
    · (intro wz hSw; (try dsimp only at hSw); go_simp; try with_reducible rfl)
    simp only [Act.put, List.setIfInBounds_toArray, List.set_cons_zero, List.set_cons_succ]
    refine wpAnyH_take (i := 4) (oi := ({ dst := some 41, op := Op.fieldAddr 60 (Operand.tmp 5) 0, type := 0, pos := _, after := _, guard := _ } : Oper)) (v := ?_) rfl (by kernel_rfl) (by kernel_rfl) (by kernel_rfl) (fun _ _ _ h => h) (Or.inl ⟨by rfl, ?_⟩) (by assumption) ?_
    rotate_left
    · (intro wz hSw; (try dsimp only at hSw); go_simp; try with_reducible rfl)
    simp only [Act.put, List.setIfInBounds_toArray, List.set_cons_zero, List.set_cons_succ]
    refine wpAnyH_take (i := 5) (oi := ({ dst := some 42, op := Op.load 3 (Operand.tmp 41), type := 3, pos := _, after := _, guard := _ } : Oper)) (v := ?_) rfl (by kernel_rfl) (by kernel_rfl) (by kernel_rfl) (fun _ _ _ h => h) (Or.inl ⟨by rfl, ?_⟩) (by assumption) ?_
    rotate_left
    · (intro wz hSw; (try dsimp only at hSw); go_simp; try with_reducible rfl)
    simp only [Act.put, List.setIfInBounds_toArray, List.set_cons_zero, List.set_cons_succ]
    refine wpAnyH_take (i := 6) (oi := ({ dst := some 43, op := Op.load 48 (Operand.tmp 7), type := 48, pos := _, after := _, guard := _ } : Oper)) (v := ?_) rfl (by kernel_rfl) (by kernel_rfl) (by kernel_rfl) (fun _ _ _ h => h) (Or.inl ⟨by rfl, ?_⟩) (by assumption) ?_
    rotate_left
    · (intro wz hSw; (try dsimp only at hSw); go_simp; try with_reducible rfl)
    simp only [Act.put, List.setIfInBounds_toArray, List.set_cons_zero, List.set_cons_succ]
    refine wpAnyH_take (i := 8) (oi := ({ dst := some 45, op := Op.move (Operand.tmp 8), type := 3, pos := _, after := _, guard := _ } : Oper)) (v := ?_) rfl (by kernel_rfl) (by kernel_rfl) (by kernel_rfl) (fun _ _ _ h => h) (Or.inl ⟨by rfl, ?_⟩) (by assumption) ?_
    rotate_left
    · (intro wz hSw; (try dsimp only at hSw); go_simp; try with_reducible rfl)
    simp only [Act.put, List.setIfInBounds_toArray, List.set_cons_zero, List.set_cons_succ]
    refine wpAnyH_take (i := 10) (oi := ({ dst := some 47, op := Op.load 25 (Operand.tmp 3), type := 25, pos := _, after := _, guard := _ } : Oper)) (v := ?_) rfl (by kernel_rfl) (by kernel_rfl) (by kernel_rfl) (fun _ _ _ h => h) (Or.inl ⟨by rfl, ?_⟩) (by assumption) ?_
    rotate_left
    · (intro wz hSw; (try dsimp only at hSw); go_simp; try with_reducible rfl)
    simp only [Act.put, List.setIfInBounds_toArray, List.set_cons_zero, List.set_cons_succ]
    refine wpAnyH_take (i := 11) (oi := ({ dst := some 48, op := Op.fieldAddr 60 (Operand.tmp 5) 0, type := 0, pos := _, after := _, guard := _ } : Oper)) (v := ?_) rfl (by kernel_rfl) (by kernel_rfl) (by kernel_rfl) (fun _ _ _ h => h) (Or.inl ⟨by rfl, ?_⟩) (by assumption) ?_
    rotate_left
    · (intro wz hSw; (try dsimp only at hSw); go_simp; try with_reducible rfl)
    simp only [Act.put, List.setIfInBounds_toArray, List.set_cons_zero, List.set_cons_succ]
    refine wpAnyH_take (i := 12) (oi := ({ dst := some 49, op := Op.load 3 (Operand.tmp 48), type := 3, pos := _, after := _, guard := _ } : Oper)) (v := ?_) rfl (by kernel_rfl) (by kernel_rfl) (by kernel_rfl) (fun _ _ _ h => h) (Or.inl ⟨by rfl, ?_⟩) (by assumption) ?_
    rotate_left
    · (intro wz hSw; (try dsimp only at hSw); go_simp; try with_reducible rfl)
    simp only [Act.put, List.setIfInBounds_toArray, List.set_cons_zero, List.set_cons_succ]
    refine wpAnyH_take (i := 13) (oi := ({ dst := some 50, op := Op.load 48 (Operand.tmp 7), type := 48, pos := _, after := _, guard := _ } : Oper)) (v := ?_) rfl (by kernel_rfl) (by kernel_rfl) (by kernel_rfl) (fun _ _ _ h => h) (Or.inl ⟨by rfl, ?_⟩) (by assumption) ?_
    rotate_left
    · (intro wz hSw; (try dsimp only at hSw); go_simp; try with_reducible rfl)
    simp only [Act.put, List.setIfInBounds_toArray, List.set_cons_zero, List.set_cons_succ]
    refine wpAnyH_take (i := 14) (oi := ({ dst := some 51, op := Op.move (Operand.tmp 8), type := 3, pos := _, after := _, guard := _ } : Oper)) (v := ?_) rfl (by kernel_rfl) (by kernel_rfl) (by kernel_rfl) (fun _ _ _ h => h) (Or.inl ⟨by rfl, ?_⟩) (by assumption) ?_
    rotate_left
    · (intro wz hSw; (try dsimp only at hSw); go_simp; try with_reducible rfl)
    simp only [Act.put, List.setIfInBounds_toArray, List.set_cons_zero, List.set_cons_succ]
    refine wpAnyH_ready (rs := [7]) (by kernel_rfl) (by simp) ?_
    refine AllReadyH.cons (o := ({ dst := some 44, op := Op.call { callee := Callee.value (Operand.func 26), args := #[Operand.tmp 43], argTypes := #[48] }, type := 53, pos := _, after := _, guard := _ } : Oper)) rfl (fun K hK => ?_) AllReadyH.nil
    · go_simp
      go_at_call 26
      refine (to_V _ _ _ _ _ _ _).mono ?_
      rintro e w2 ⟨rfl, hb2⟩
      have b2 := hide (b1.out.trans (hb2.mono b1.out.size))
      refine hK.out _ _ (HS.out _ b2.out) (fun hH2 => ?_)
      clear hK K hb2
      refine wpAnyH_ready (rs := [9]) (by kernel_rfl) (by simp) ?_
      refine AllReadyH.cons (o := ({ dst := some 46, op := Op.call { callee := Callee.value (Operand.func 29), args := #[Operand.tmp 40, Operand.tmp 42, Operand.tmp 44, Operand.tmp 45], argTypes := #[29, 3, 53, 3] }, type := 29, pos := _, after := _, guard := _ } : Oper)) rfl (fun K hK => ?_) AllReadyH.nil
      · go_simp
        go_at_call 29
        refine (setJ9 (HA.out.keep b2.out).rx OX.out (by omega) i u z1).mono ?_
        rintro e w3 ⟨yRa, rfl, hb3, hR3⟩
        have Ra_3 := hide hR3
        clear hR3
        have b3 := hide (b2.out.trans (hb3.mono b2.out.size))
        refine hK.out _ _ (HS.out _ b3.out) (fun hH3 => ?_)
        clear hK K hb3
        refine wpAnyH_ready (rs := [15]) (by kernel_rfl) (by simp) ?_
        refine AllReadyH.cons (o := ({ dst := some 52, op := Op.call { callee := Callee.value (Operand.func 30), args := #[Operand.tmp 47, Operand.tmp 49, Operand.tmp 50, Operand.tmp 51], argTypes := #[25, 3, 48, 3] }, type := 25, pos := _, after := _, guard := _ } : Oper)) rfl (fun K hK => ?_) AllReadyH.nil
        · go_simp
          go_at_call 30
          refine (setrJ9 (HA.out.keep b3.out).ra OX.out (by omega) i u z1).mono ?_
          rintro e w4 ⟨yRb, rfl, hb4, hR4⟩
          have Ra_4 := hide (Ra_3.out.keep hb4)
          have Rb_4 := hide hR4
          clear hR4
          have b4 := hide (b3.out.trans (hb4.mono b3.out.size))
          refine hK.out _ _ (HS.out _ b4.out) (fun hH4 => ?_)
          clear hK K hb4
          refine wpAnyH_ready (rs := [16]) (by kernel_rfl) (by simp) ?_
          refine AllReadyH.cons (o := ({ dst := some 53, op := Op.call { callee := Callee.value (Operand.func 13), args := #[Operand.tmp 46, Operand.tmp 52], argTypes := #[29, 25] }, type := 4, pos := _, after := _, guard := _ } : Oper)) rfl (fun K hK => ?_) AllReadyH.nil
          · go_simp
            go_at_call 13
            refine (sameK9 Ra_4.out Rb_4.out (set_ok OX.out (by omega) i HU.out z1) (by omega)).mono ?_
            rintro e w5 ⟨rfl, hb5⟩
            have b5 := hide (b4.out.trans (hb5.mono b4.out.size))
            refine hK.out _ _ (HS.out _ b5.out) (fun hH5 => ?_)
            clear hK K hb5
            refine wpAnyH_take (i := 17) (oi := ({ dst := some 54, op := Op.unOp UnOp.not 4 (Operand.tmp 53), type := 4, pos := _, after := _, guard := _ } : Oper)) (v := ?_) rfl (by kernel_rfl) (by kernel_rfl) (by kernel_rfl) (fun _ _ _ h => h) (Or.inl ⟨by rfl, ?_⟩) (by assumption) ?_
            rotate_left
            · (intro wz hSw; (try dsimp only at hSw); go_simp; try with_reducible rfl)
            simp only [Act.put, List.setIfInBounds_toArray, List.set_cons_zero, List.set_cons_succ]
            refine wpAnyH_take (i := 18) (oi := ({ dst := some 55, op := Op.pick (Operand.tmp 39) (Operand.const (Value.bool true)) (Operand.tmp 54), type := 4, pos := _, after := _, guard := _ } : Oper)) (v := ?_) rfl (by kernel_rfl) (by kernel_rfl) (by kernel_rfl) (fun _ _ _ h => h) (Or.inl ⟨by rfl, ?_⟩) (by assumption) ?_
            rotate_left
            · (intro wz hSw; (try dsimp only at hSw); go_simp; try with_reducible rfl)
            simp only [Act.put, List.setIfInBounds_toArray, List.set_cons_zero, List.set_cons_succ]
            refine wpAnyH_take (i := 19) (oi := ({ dst := some 56, op := Op.move (Operand.tmp 55), type := 4, pos := _, after := _, guard := _ } : Oper)) (v := ?_) rfl (by kernel_rfl) (by kernel_rfl) (by kernel_rfl) (fun _ _ _ h => h) (Or.inl ⟨by rfl, ?_⟩) (by assumption) ?_
            rotate_left
            · (intro wz hSw; (try dsimp only at hSw); go_simp; try with_reducible rfl)
            simp only [Act.put, List.setIfInBounds_toArray, List.set_cons_zero, List.set_cons_succ]
            refine wpAnyH_take (i := 20) (oi := ({ dst := some 57, op := Op.load 29 (Operand.tmp 10), type := 29, pos := _, after := _, guard := _ } : Oper)) (v := ?_) rfl (by kernel_rfl) (by kernel_rfl) (by kernel_rfl) (fun _ _ _ h => h) (Or.inl ⟨by rfl, ?_⟩) (by assumption) ?_
            rotate_left
            · (intro wz hSw; (try dsimp only at hSw); go_simp; try with_reducible rfl)
            simp only [Act.put, List.setIfInBounds_toArray, List.set_cons_zero, List.set_cons_succ]
            refine wpAnyH_take (i := 21) (oi := ({ dst := some 58, op := Op.move (Operand.tmp 9), type := 3, pos := _, after := _, guard := _ } : Oper)) (v := ?_) rfl (by kernel_rfl) (by kernel_rfl) (by kernel_rfl) (fun _ _ _ h => h) (Or.inl ⟨by rfl, ?_⟩) (by assumption) ?_
            rotate_left
            · (intro wz hSw; (try dsimp only at hSw); go_simp; try with_reducible rfl)
            simp only [Act.put, List.setIfInBounds_toArray, List.set_cons_zero, List.set_cons_succ]
            refine wpAnyH_take (i := 23) (oi := ({ dst := some 60, op := Op.load 25 (Operand.tmp 3), type := 25, pos := _, after := _, guard := _ } : Oper)) (v := ?_) rfl (by kernel_rfl) (by kernel_rfl) (by kernel_rfl) (fun _ _ _ h => h) (Or.inl ⟨by rfl, ?_⟩) (by assumption) ?_
            rotate_left
            · (intro wz hSw; (try dsimp only at hSw); go_simp; try with_reducible rfl)
            simp only [Act.put, List.setIfInBounds_toArray, List.set_cons_zero, List.set_cons_succ]
            refine wpAnyH_take (i := 24) (oi := ({ dst := some 61, op := Op.move (Operand.tmp 9), type := 3, pos := _, after := _, guard := _ } : Oper)) (v := ?_) rfl (by kernel_rfl) (by kernel_rfl) (by kernel_rfl) (fun _ _ _ h => h) (Or.inl ⟨by rfl, ?_⟩) (by assumption) ?_
            rotate_left
            · (intro wz hSw; (try dsimp only at hSw); go_simp; try with_reducible rfl)
            simp only [Act.put, List.setIfInBounds_toArray, List.set_cons_zero, List.set_cons_succ]
            refine wpAnyH_ready (rs := [22]) (by kernel_rfl) (by simp) ?_
            refine AllReadyH.cons (o := ({ dst := some 59, op := Op.call { callee := Callee.value (Operand.func 31), args := #[Operand.tmp 57, Operand.tmp 58], argTypes := #[29, 3] }, type := 29, pos := _, after := _, guard := _ } : Oper)) rfl (fun K hK => ?_) AllReadyH.nil
            · go_simp
              go_at_call 31
              refine (shiftJ9 (HA.out.keep b5.out).rx OX.out (by omega) LX.out z2 HZ2.out.1 HZ2.out.2).mono ?_
              rintro e w6 ⟨yRc, rfl, hb6, hR6⟩
              have Rc_6 := hide hR6
              clear hR6
              have b6 := hide (b5.out.trans (hb6.mono b5.out.size))
              refine hK.out _ _ (HS.out _ b6.out) (fun hH6 => ?_)
              clear hK K hb6
              refine wpAnyH_ready (rs := [25]) (by kernel_rfl) (by simp) ?_
              refine AllReadyH.cons (o := ({ dst := some 62, op := Op.call { callee := Callee.value (Operand.func 32), args := #[Operand.tmp 60, Operand.tmp 61], argTypes := #[25, 3] }, type := 25, pos := _, after := _, guard := _ } : Oper)) rfl (fun K hK => ?_) AllReadyH.nil
              · go_simp
                go_at_call 32
                refine (shiftrJ9 (HA.out.keep b6.out).ra OX.out (by omega) LX.out z2 HZ2.out.1 HZ2.out.2).mono ?_
                rintro e w7 ⟨yRd, rfl, hb7, hR7⟩
                have Rc_7 := hide (Rc_6.out.keep hb7)
                have Rd_7 := hide hR7
                clear hR7
                have b7 := hide (b6.out.trans (hb7.mono b6.out.size))
                refine hK.out _ _ (HS.out _ b7.out) (fun hH7 => ?_)
                clear hK K hb7
                refine wpAnyH_ready (rs := [26]) (by kernel_rfl) (by simp) ?_
                refine AllReadyH.cons (o := ({ dst := some 63, op := Op.call { callee := Callee.value (Operand.func 13), args := #[Operand.tmp 59, Operand.tmp 62], argTypes := #[29, 25] }, type := 4, pos := _, after := _, guard := _ } : Oper)) rfl (fun K hK => ?_) AllReadyH.nil
                · go_simp
                  go_at_call 13
                  refine (sameK9 Rc_7.out Rd_7.out (shift_ok OX.out z2) (by omega)).mono ?_
                  rintro e w8 ⟨rfl, hb8⟩
                  have b8 := hide (b7.out.trans (hb8.mono b7.out.size))
                  refine hK.out _ _ (HS.out _ b8.out) (fun hH8 => ?_)
                  clear hK K hb8
                  refine wpAnyH_take (i := 27) (oi := ({ dst := some 64, op := Op.unOp UnOp.not 4 (Operand.tmp 63), type := 4, pos := _, after := _, guard := _ } : Oper)) (v := ?_) rfl (by kernel_rfl) (by kernel_rfl) (by kernel_rfl) (fun _ _ _ h => h) (Or.inl ⟨by rfl, ?_⟩) (by assumption) ?_
                  rotate_left
                  · (intro wz hSw; (try dsimp only at hSw); go_simp; try with_reducible rfl)
                  simp only [Act.put, List.setIfInBounds_toArray, List.set_cons_zero, List.set_cons_succ]
                  refine wpAnyH_take (i := 28) (oi := ({ dst := some 65, op := Op.pick (Operand.tmp 56) (Operand.const (Value.bool true)) (Operand.tmp 64), type := 4, pos := _, after := _, guard := _ } : Oper)) (v := ?_) rfl (by kernel_rfl) (by kernel_rfl) (by kernel_rfl) (fun _ _ _ h => h) (Or.inl ⟨by rfl, ?_⟩) (by assumption) ?_
                  rotate_left
                  · (intro wz hSw; (try dsimp only at hSw); go_simp; try with_reducible rfl)
                  simp only [Act.put, List.setIfInBounds_toArray, List.set_cons_zero, List.set_cons_succ]
                  refine wpAnyH_done (by kernel_rfl) ?_ _
                  have HB := hide (HA.out.keep b8.out)
                  clear HS b8 hH8 HA
                  obtain ⟨wb, hwb⟩ : ∃ z9, z9 = w8 := ⟨_, rfl⟩
                  rw [← hwb] at HB ⊢
                  clear hwb
                  go_wp2_with fail
                  go_loopw [12] (fun s12 wr => ∃ k : Nat, s12 = .int .i64 k ∧ k ≤ 2 ∧ Hid (Hc i u w wr N (N + 1 + 1) k7 k10 k11 q0 v0 s0 qx vx sx qy vy sy x y)) (fun s12 _ => 2 - (intOf s12).toNat)
                  case atStart => exact ⟨0, rfl, Nat.zero_le _, HB.out⟩
                  case round =>
                    obtain ⟨k, rfl, hk, HA⟩ := hrel
                    clear HB
                    by_cases hk2 : k < 2
                    · have hk3 : (k : Int) < 2 := by omega
                      go_upto_region 9 with fail
                      have HS : Hid (∀ w', Below wr.heap.size wr w' → (w'.cell? ⟨N, 0, none⟩ = some (.bool q0) ∧ w'.cell? ⟨N, 1, none⟩ = some (v0) ∧ w'.cell? ⟨N, 2, none⟩ = some (s0) ∧ w'.cell? ⟨k10, 0, none⟩ = some (.bool qx) ∧ w'.cell? ⟨k10, 1, none⟩ = some (vx) ∧ w'.cell? ⟨k10, 2, none⟩ = some (sx) ∧ w'.cell? ⟨(N + 1 + 1), 0, none⟩ = some (.int .i64 i))) := hide (fun w' h => by have t := HA.out.keep h; exact ⟨t.b3.c0, t.b3.c1, t.b3.c2, t.b10.c0, t.b10.c1, t.b10.c2, t.ci⟩)
                      refine wp_region_held_drew (S := fun w' => w'.cell? ⟨N, 0, none⟩ = some (.bool q0) ∧ w'.cell? ⟨N, 1, none⟩ = some (v0) ∧ w'.cell? ⟨N, 2, none⟩ = some (s0) ∧ w'.cell? ⟨k10, 0, none⟩ = some (.bool qx) ∧ w'.cell? ⟨k10, 1, none⟩ = some (vx) ∧ w'.cell? ⟨k10, 2, none⟩ = some (sx) ∧ w'.cell? ⟨(N + 1 + 1), 0, none⟩ = some (.int .i64 i)) (by kernel_rfl) (HS.out _ (Below.refl _ _).drew) (fun hH0 => ?_)
                      obtain ⟨w0, hw0⟩ : ∃ w0, w0 = wr.drew := ⟨_, rfl⟩
                      (try rw [← hw0] at hH0)
                      rw [← hw0]
                      have b0 : Hid (Below wr.heap.size wr w0) := hw0 ▸ hide (Below.refl _ _).drew
                      clear hw0
                      refine wpAnyH_take (i := 0) (oi := ({ dst := some 70, op := Op.load 29 (Operand.tmp 10), type := 29, pos := _, after := _, guard := _ } : Oper)) (v := ?_) rfl (by kernel_rfl) (by kernel_rfl) (by kernel_rfl) (fun _ _ _ h => h) (Or.inl ⟨by rfl, ?_⟩) (by assumption) ?_
                      rotate_left
                      · (intro wz hSw; (try dsimp only at hSw); go_simp; try with_reducible rfl)
                      simp only [Act.put, List.setIfInBounds_toArray, List.set_cons_zero, List.set_cons_succ]
                      refine wpAnyH_take (i := 1) (oi := ({ dst := some 71, op := Op.fieldAddr 60 (Operand.tmp 5) 0, type := 0, pos := _, after := _, guard := _ } : Oper)) (v := ?_) rfl (by kernel_rfl) (by kernel_rfl) (by kernel_rfl) (fun _ _ _ h => h) (Or.inl ⟨by rfl, ?_⟩) (by assumption) ?_
                      rotate_left
                      · (intro wz hSw; (try dsimp only at hSw); go_simp; try with_reducible rfl)
                      simp only [Act.put, List.setIfInBounds_toArray, List.set_cons_zero, List.set_cons_succ]
                      refine wpAnyH_take (i := 2) (oi := ({ dst := some 72, op := Op.load 3 (Operand.tmp 71), type := 3, pos := _, after := _, guard := _ } : Oper)) (v := ?_) rfl (by kernel_rfl) (by kernel_rfl) (by kernel_rfl) (fun _ _ _ h => h) (Or.inl ⟨by rfl, ?_⟩) (by assumption) ?_
                      rotate_left
                      · (intro wz hSw; (try dsimp only at hSw); go_simp; try with_reducible rfl)
                      simp only [Act.put, List.setIfInBounds_toArray, List.set_cons_zero, List.set_cons_succ]
                      refine wpAnyH_take (i := 3) (oi := ({ dst := some 73, op := Op.move (Operand.tmp 12), type := 3, pos := _, after := _, guard := _ } : Oper)) (v := ?_) rfl (by kernel_rfl) (by kernel_rfl) (by kernel_rfl) (fun _ _ _ h => h) (Or.inl ⟨by rfl, ?_⟩) (by assumption) ?_
                      rotate_left
                      · (intro wz hSw; (try dsimp only at hSw); go_simp; try with_reducible rfl)
                      simp only [Act.put, List.setIfInBounds_toArray, List.set_cons_zero, List.set_cons_succ]
                      refine wpAnyH_take (i := 4) (oi := ({ dst := some 74, op := Op.binOp BinOp.eql 3 (Operand.tmp 73) (Operand.const (Value.int IntKind.i64 1)) 3, type := 4, pos := _, after := _, guard := _ } : Oper)) (v := ?_) rfl (by kernel_rfl) (by kernel_rfl) (by kernel_rfl) (fun _ _ _ h => h) (Or.inl ⟨by rfl, ?_⟩) (by assumption) ?_
                      rotate_left
                      · (intro wz hSw; (try dsimp only at hSw); go_simp; try with_reducible rfl)
                      simp only [Act.put, List.setIfInBounds_toArray, List.set_cons_zero, List.set_cons_succ]
                      refine wpAnyH_take (i := 6) (oi := ({ dst := some 76, op := Op.load 25 (Operand.tmp 3), type := 25, pos := _, after := _, guard := _ } : Oper)) (v := ?_) rfl (by kernel_rfl) (by kernel_rfl) (by kernel_rfl) (fun _ _ _ h => h) (Or.inl ⟨by rfl, ?_⟩) (by assumption) ?_
                      rotate_left
                      · (intro wz hSw; (try dsimp only at hSw); go_simp; try with_reducible rfl)
                      simp only [Act.put, List.setIfInBounds_toArray, List.set_cons_zero, List.set_cons_succ]
                      refine wpAnyH_take (i := 7) (oi := ({ dst := some 77, op := Op.fieldAddr 60 (Operand.tmp 5) 0, type := 0, pos := _, after := _, guard := _ } : Oper)) (v := ?_) rfl (by kernel_rfl) (by kernel_rfl) (by kernel_rfl) (fun _ _ _ h => h) (Or.inl ⟨by rfl, ?_⟩) (by assumption) ?_
                      rotate_left
                      · (intro wz hSw; (try dsimp only at hSw); go_simp; try with_reducible rfl)
                      simp only [Act.put, List.setIfInBounds_toArray, List.set_cons_zero, List.set_cons_succ]
                      refine wpAnyH_take (i := 8) (oi := ({ dst := some 78, op := Op.load 3 (Operand.tmp 77), type := 3, pos := _, after := _, guard := _ } : Oper)) (v := ?_) rfl (by kernel_rfl) (by kernel_rfl) (by kernel_rfl) (fun _ _ _ h => h) (Or.inl ⟨by rfl, ?_⟩) (by assumption) ?_
                      rotate_left
                      · (intro wz hSw; (try dsimp only at hSw); go_simp; try with_reducible rfl)
                      simp only [Act.put, List.setIfInBounds_toArray, List.set_cons_zero, List.set_cons_succ]
                      refine wpAnyH_take (i := 9) (oi := ({ dst := some 79, op := Op.move (Operand.tmp 12), type := 3, pos := _, after := _, guard := _ } : Oper)) (v := ?_) rfl (by kernel_rfl) (by kernel_rfl) (by kernel_rfl) (fun _ _ _ h => h) (Or.inl ⟨by rfl, ?_⟩) (by assumption) ?_
                      rotate_left
                      · (intro wz hSw; (try dsimp only at hSw); go_simp; try with_reducible rfl)
                      simp only [Act.put, List.setIfInBounds_toArray, List.set_cons_zero, List.set_cons_succ]
                      refine wpAnyH_take (i := 10) (oi := ({ dst := some 80, op := Op.binOp BinOp.eql 3 (Operand.tmp 79) (Operand.const (Value.int IntKind.i64 1)) 3, type := 4, pos := _, after := _, guard := _ } : Oper)) (v := ?_) rfl (by kernel_rfl) (by kernel_rfl) (by kernel_rfl) (fun _ _ _ h => h) (Or.inl ⟨by rfl, ?_⟩) (by assumption) ?_
                      rotate_left
                      · (intro wz hSw; (try dsimp only at hSw); go_simp; try with_reducible rfl)
                      simp only [Act.put, List.setIfInBounds_toArray, List.set_cons_zero, List.set_cons_succ]
                      refine wpAnyH_ready (rs := [5]) (by kernel_rfl) (by simp) ?_
                      refine AllReadyH.cons (o := ({ dst := some 75, op := Op.call { callee := Callee.value (Operand.func 33), args := #[Operand.tmp 70, Operand.tmp 72, Operand.tmp 74], argTypes := #[29, 3, 4] }, type := 29, pos := _, after := _, guard := _ } : Oper)) rfl (fun K hK => ?_) AllReadyH.nil
                      · go_simp
                        go_at_call 33
                        refine (branchJ9 (HA.out.keep b0.out).rx OX.out (by omega) i _).mono ?_
                        rintro e w1 ⟨yRa, rfl, hb1, hR1⟩
                        have Ra_1 := hide hR1
                        clear hR1
                        have b1 := hide (b0.out.trans (hb1.mono b0.out.size))
                        refine hK.out _ _ (HS.out _ b1.out) (fun hH1 => ?_)
                        clear hK K hb1
                        refine wpAnyH_ready (rs := [11]) (by kernel_rfl) (by simp) ?_
                        refine AllReadyH.cons (o := ({ dst := some 81, op := Op.call { callee := Callee.value (Operand.func 34), args := #[Operand.tmp 76, Operand.tmp 78, Operand.tmp 80], argTypes := #[25, 3, 4] }, type := 25, pos := _, after := _, guard := _ } : Oper)) rfl (fun K hK => ?_) AllReadyH.nil
                        · go_simp
                          go_at_call 34
                          refine (branchrJ9 (HA.out.keep b1.out).ra OX.out (by omega) i _).mono ?_
                          rintro e w2 ⟨yRb, rfl, hb2, hR2⟩
                          have Ra_2 := hide (Ra_1.out.keep hb2)
                          have Rb_2 := hide hR2
                          clear hR2
                          have b2 := hide (b1.out.trans (hb2.mono b1.out.size))
                          refine hK.out _ _ (HS.out _ b2.out) (fun hH2 => ?_)
                          clear hK K hb2
                          refine wpAnyH_ready (rs := [12]) (by kernel_rfl) (by simp) ?_
                          refine AllReadyH.cons (o := ({ dst := some 82, op := Op.call { callee := Callee.value (Operand.func 13), args := #[Operand.tmp 75, Operand.tmp 81], argTypes := #[29, 25] }, type := 4, pos := _, after := _, guard := _ } : Oper)) rfl (fun K hK => ?_) AllReadyH.nil
                          · go_simp
                            go_at_call 13
                            refine (sameK9 Ra_2.out Rb_2.out (branch_okS OX.out i _) (by omega)).mono ?_
                            rintro e w3 ⟨rfl, hb3⟩
                            have b3 := hide (b2.out.trans (hb3.mono b2.out.size))
                            refine hK.out _ _ (HS.out _ b3.out) (fun hH3 => ?_)
                            clear hK K hb3
                            refine wpAnyH_take (i := 13) (oi := ({ dst := some 83, op := Op.unOp UnOp.not 4 (Operand.tmp 82), type := 4, pos := _, after := _, guard := _ } : Oper)) (v := ?_) rfl (by kernel_rfl) (by kernel_rfl) (by kernel_rfl) (fun _ _ _ h => h) (Or.inl ⟨by rfl, ?_⟩) (by assumption) ?_
                            rotate_left
                            · (intro wz hSw; (try dsimp only at hSw); go_simp; try with_reducible rfl)
                            simp only [Act.put, List.setIfInBounds_toArray, List.set_cons_zero, List.set_cons_succ]
                            refine wpAnyH_done (by kernel_rfl) ?_ _
                            have HZ := hide (HA.out.keep b3.out)
                            clear HS b3 hH3 HA
                            obtain ⟨wz, hwb⟩ : ∃ z9, z9 = w3 := ⟨_, rfl⟩
                            rw [← hwb] at HZ ⊢
                            clear hwb
                            go_wp2_with fail
                            exact ⟨⟨k + 1, by simp, by omega, HZ.out⟩, by simp [intOf]; omega⟩
                    · have hke : k = 2 := by omega
                      subst hke
                      clear hk hk2
                      have i1 := OX.out.len
                      have i2 := OX.out.le
                      clear i1 i2
                      obtain ⟨xa, xc, xb, xd, ex, -⟩ := id HA.out.rx
                      obtain ⟨ya, yc, yb, yd, ey, -⟩ := id HA.out.ry
                      simp only [Value.agg.injEq, Array.mk.injEq, List.cons.injEq, and_true, Value.bool.injEq] at ex ey
                      obtain ⟨ex1, rfl, rfl⟩ := ex
                      obtain ⟨ey1, rfl, rfl⟩ := ey
                      clear ex1 ey1
                      have hxl : x.raw.vs.length = x.us.length := by unfold VS.raw; rw [List.length_map]
                      have hyl : y.raw.vs.length = y.us.length := by unfold VS.raw; rw [List.length_map]
                      have mx : (x.raw.vs.length : Int) ≤ 100000 := by have := OX.out.le; omega
                      have my : (y.raw.vs.length : Int) ≤ 100000 := by have := OJ.out.le; omega
                      have HL : Hid (y.raw.vs.length = x.raw.vs.length → withinVS x y = true) := hide (fun h => WJ.out (by omega))
                      clear hxl hyl WJ
                      generalize x.raw.vs.length = nx at *
                      generalize y.raw.vs.length = ny at *
                      generalize x.raw.ss.length = mx9 at *
                      generalize y.raw.ss.length = my9 at *
                      have e0 := HA.out.b3.c0
                      have e1 := HA.out.b3.c1
                      have e2 := HA.out.b3.c2
                      have f0 := HA.out.b10.c0
                      have f1 := HA.out.b10.c1
                      have f2 := HA.out.b10.c2
                      have g0 := HA.out.b11.c0
                      have g1 := HA.out.b11.c1
                      have g2 := HA.out.b11.c2
                      by_cases hny : ny = nx
                      · have HW := hide (HL.out hny)
                        subst hny
                        clear HL
                        go_upto_region 13 with (go_at_call 13; refine (sameK9 HA.out.rx HA.out.ra OX.out (by omega)).mono ?_; rintro e w5 ⟨rfl, hb5⟩; have H5 := hide (HA.out.keep hb5); clear e0 e1 e2 f0 f1 f2 g0 g1 g2; clear HA hb5; have e0 := H5.out.b3.c0; have e1 := H5.out.b3.c1; have e2 := H5.out.b3.c2; have f0 := H5.out.b10.c0; have f1 := H5.out.b10.c1; have f2 := H5.out.b10.c2; have g0 := H5.out.b11.c0; have g1 := H5.out.b11.c1; have g2 := H5.out.b11.c2)
                        clear e0 e1 e2 f0 f1 f2 g0 g1 g2
                        have HA := H5
                        clear H5
                        generalize (Value.slice xa ny xc) = vx at *
                        generalize (Value.slice xb mx9 xd) = sx at *
                        generalize (Value.slice ya ny yc) = vy at *
                        generalize (Value.slice yb my9 yd) = sy at *
                        have HS : Hid (∀ w', Below w5.heap.size w5 w' → (w'.cell? ⟨k10, 0, none⟩ = some (.bool qx) ∧ w'.cell? ⟨k10, 1, none⟩ = some (vx) ∧ w'.cell? ⟨k10, 2, none⟩ = some (sx) ∧ w'.cell? ⟨k11, 0, none⟩ = some (.bool qy) ∧ w'.cell? ⟨k11, 1, none⟩ = some (vy) ∧ w'.cell? ⟨k11, 2, none⟩ = some (sy) ∧ w'.cell? ⟨k7, 0, none⟩ = some (.int .i64 (up u.s)) ∧ w'.cell? ⟨k7, 1, none⟩ = some (.bool u.k) ∧ w'.cell? ⟨k7, 2, none⟩ = some (.int .i64 u.n) ∧ w'.cell? ⟨k7, 3, none⟩ = some (.int .i64 u.lo) ∧ w'.cell? ⟨k7, 4, none⟩ = some (.int .i64 u.hi) ∧ w'.cell? ⟨k7, 5, none⟩ = some (.int .i64 (up u.p)) ∧ w'.cell? ⟨(N + 1 + 1), 0, none⟩ = some (.int .i64 i))) := hide (fun w' h => by have t := HA.out.keep h; exact ⟨t.b10.c0, t.b10.c1, t.b10.c2, t.b11.c0, t.b11.c1, t.b11.c2, t.b7.c0, t.b7.c1, t.b7.c2, t.b7.c3, t.b7.c4, t.b7.c5, t.ci⟩)
                        refine wp_region_held_drew (S := fun w' => w'.cell? ⟨k10, 0, none⟩ = some (.bool qx) ∧ w'.cell? ⟨k10, 1, none⟩ = some (vx) ∧ w'.cell? ⟨k10, 2, none⟩ = some (sx) ∧ w'.cell? ⟨k11, 0, none⟩ = some (.bool qy) ∧ w'.cell? ⟨k11, 1, none⟩ = some (vy) ∧ w'.cell? ⟨k11, 2, none⟩ = some (sy) ∧ w'.cell? ⟨k7, 0, none⟩ = some (.int .i64 (up u.s)) ∧ w'.cell? ⟨k7, 1, none⟩ = some (.bool u.k) ∧ w'.cell? ⟨k7, 2, none⟩ = some (.int .i64 u.n) ∧ w'.cell? ⟨k7, 3, none⟩ = some (.int .i64 u.lo) ∧ w'.cell? ⟨k7, 4, none⟩ = some (.int .i64 u.hi) ∧ w'.cell? ⟨k7, 5, none⟩ = some (.int .i64 (up u.p)) ∧ w'.cell? ⟨(N + 1 + 1), 0, none⟩ = some (.int .i64 i)) (by kernel_rfl) (HS.out _ (Below.refl _ _).drew) (fun hH0 => ?_)
                        obtain ⟨w0, hw0⟩ : ∃ w0, w0 = w5.drew := ⟨_, rfl⟩
                        (try rw [← hw0] at hH0)
                        rw [← hw0]
                        have b0 : Hid (Below w5.heap.size w5 w0) := hw0 ▸ hide (Below.refl _ _).drew
                        clear hw0
                        refine wpAnyH_take (i := 0) (oi := ({ dst := some 100, op := Op.load 29 (Operand.tmp 10), type := 29, pos := _, after := _, guard := _ } : Oper)) (v := ?_) rfl (by kernel_rfl) (by kernel_rfl) (by kernel_rfl) (fun _ _ _ h => h) (Or.inl ⟨by rfl, ?_⟩) (by assumption) ?_
                        rotate_left
                        · (intro wz hSw; (try dsimp only at hSw); go_simp; try with_reducible rfl)
                        simp only [Act.put, List.setIfInBounds_toArray, List.set_cons_zero, List.set_cons_succ]
                        refine wpAnyH_take (i := 1) (oi := ({ dst := some 101, op := Op.fieldAddr 60 (Operand.tmp 5) 0, type := 0, pos := _, after := _, guard := _ } : Oper)) (v := ?_) rfl (by kernel_rfl) (by kernel_rfl) (by kernel_rfl) (fun _ _ _ h => h) (Or.inl ⟨by rfl, ?_⟩) (by assumption) ?_
                        rotate_left
                        · (intro wz hSw; (try dsimp only at hSw); go_simp; try with_reducible rfl)
                        simp only [Act.put, List.setIfInBounds_toArray, List.set_cons_zero, List.set_cons_succ]
                        refine wpAnyH_take (i := 2) (oi := ({ dst := some 102, op := Op.load 3 (Operand.tmp 101), type := 3, pos := _, after := _, guard := _ } : Oper)) (v := ?_) rfl (by kernel_rfl) (by kernel_rfl) (by kernel_rfl) (fun _ _ _ h => h) (Or.inl ⟨by rfl, ?_⟩) (by assumption) ?_
                        rotate_left
                        · (intro wz hSw; (try dsimp only at hSw); go_simp; try with_reducible rfl)
                        simp only [Act.put, List.setIfInBounds_toArray, List.set_cons_zero, List.set_cons_succ]
                        refine wpAnyH_take (i := 3) (oi := ({ dst := some 103, op := Op.load 48 (Operand.tmp 7), type := 48, pos := _, after := _, guard := _ } : Oper)) (v := ?_) rfl (by kernel_rfl) (by kernel_rfl) (by kernel_rfl) (fun _ _ _ h => h) (Or.inl ⟨by rfl, ?_⟩) (by assumption) ?_
                        rotate_left
                        · (intro wz hSw; (try dsimp only at hSw); go_simp; try with_reducible rfl)
                        simp only [Act.put, List.setIfInBounds_toArray, List.set_cons_zero, List.set_cons_succ]
                        refine wpAnyH_take (i := 5) (oi := ({ dst := some 105, op := Op.move (Operand.tmp 8), type := 3, pos := _, after := _, guard := _ } : Oper)) (v := ?_) rfl (by kernel_rfl) (by kernel_rfl) (by kernel_rfl) (fun _ _ _ h => h) (Or.inl ⟨by rfl, ?_⟩) (by assumption) ?_
                        rotate_left
                        · (intro wz hSw; (try dsimp only at hSw); go_simp; try with_reducible rfl)
                        simp only [Act.put, List.setIfInBounds_toArray, List.set_cons_zero, List.set_cons_succ]
                        refine wpAnyH_take (i := 7) (oi := ({ dst := some 107, op := Op.load 29 (Operand.tmp 11), type := 29, pos := _, after := _, guard := _ } : Oper)) (v := ?_) rfl (by kernel_rfl) (by kernel_rfl) (by kernel_rfl) (fun _ _ _ h => h) (Or.inl ⟨by rfl, ?_⟩) (by assumption) ?_
                        rotate_left
                        · (intro wz hSw; (try dsimp only at hSw); go_simp; try with_reducible rfl)
                        simp only [Act.put, List.setIfInBounds_toArray, List.set_cons_zero, List.set_cons_succ]
                        refine wpAnyH_take (i := 8) (oi := ({ dst := some 108, op := Op.fieldAddr 60 (Operand.tmp 5) 0, type := 0, pos := _, after := _, guard := _ } : Oper)) (v := ?_) rfl (by kernel_rfl) (by kernel_rfl) (by kernel_rfl) (fun _ _ _ h => h) (Or.inl ⟨by rfl, ?_⟩) (by assumption) ?_
                        rotate_left
                        · (intro wz hSw; (try dsimp only at hSw); go_simp; try with_reducible rfl)
                        simp only [Act.put, List.setIfInBounds_toArray, List.set_cons_zero, List.set_cons_succ]
                        refine wpAnyH_take (i := 9) (oi := ({ dst := some 109, op := Op.load 3 (Operand.tmp 108), type := 3, pos := _, after := _, guard := _ } : Oper)) (v := ?_) rfl (by kernel_rfl) (by kernel_rfl) (by kernel_rfl) (fun _ _ _ h => h) (Or.inl ⟨by rfl, ?_⟩) (by assumption) ?_
                        rotate_left
                        · (intro wz hSw; (try dsimp only at hSw); go_simp; try with_reducible rfl)
                        simp only [Act.put, List.setIfInBounds_toArray, List.set_cons_zero, List.set_cons_succ]
                        refine wpAnyH_take (i := 10) (oi := ({ dst := some 110, op := Op.load 48 (Operand.tmp 7), type := 48, pos := _, after := _, guard := _ } : Oper)) (v := ?_) rfl (by kernel_rfl) (by kernel_rfl) (by kernel_rfl) (fun _ _ _ h => h) (Or.inl ⟨by rfl, ?_⟩) (by assumption) ?_
                        rotate_left
                        · (intro wz hSw; (try dsimp only at hSw); go_simp; try with_reducible rfl)
                        simp only [Act.put, List.setIfInBounds_toArray, List.set_cons_zero, List.set_cons_succ]
                        refine wpAnyH_take (i := 12) (oi := ({ dst := some 112, op := Op.move (Operand.tmp 8), type := 3, pos := _, after := _, guard := _ } : Oper)) (v := ?_) rfl (by kernel_rfl) (by kernel_rfl) (by kernel_rfl) (fun _ _ _ h => h) (Or.inl ⟨by rfl, ?_⟩) (by assumption) ?_
                        rotate_left
                        · (intro wz hSw; (try dsimp only at hSw); go_simp; try with_reducible rfl)
                        simp only [Act.put, List.setIfInBounds_toArray, List.set_cons_zero, List.set_cons_succ]
                        refine wpAnyH_ready (rs := [4]) (by kernel_rfl) (by simp) ?_
                        refine AllReadyH.cons (o := ({ dst := some 104, op := Op.call { callee := Callee.value (Operand.func 26), args := #[Operand.tmp 103], argTypes := #[48] }, type := 53, pos := _, after := _, guard := _ } : Oper)) rfl (fun K hK => ?_) AllReadyH.nil
                        · go_simp
                          go_at_call 26
                          refine (to_V _ _ _ _ _ _ _).mono ?_
                          rintro e w1 ⟨rfl, hb1⟩
                          have b1 := hide (b0.out.trans (hb1.mono b0.out.size))
                          refine hK.out _ _ (HS.out _ b1.out) (fun hH1 => ?_)
                          clear hK K hb1
                          refine wpAnyH_ready (rs := [6]) (by kernel_rfl) (by simp) ?_
                          refine AllReadyH.cons (o := ({ dst := some 106, op := Op.call { callee := Callee.value (Operand.func 29), args := #[Operand.tmp 100, Operand.tmp 102, Operand.tmp 104, Operand.tmp 105], argTypes := #[29, 3, 53, 3] }, type := 29, pos := _, after := _, guard := _ } : Oper)) rfl (fun K hK => ?_) AllReadyH.nil
                          · go_simp
                            go_at_call 29
                            refine (setJ9 (HA.out.keep b1.out).rx OX.out (by omega) i u z1).mono ?_
                            rintro e w2 ⟨yRa, rfl, hb2, hR2⟩
                            have Ra_2 := hide hR2
                            clear hR2
                            have b2 := hide (b1.out.trans (hb2.mono b1.out.size))
                            refine hK.out _ _ (HS.out _ b2.out) (fun hH2 => ?_)
                            clear hK K hb2
                            refine wpAnyH_ready (rs := [11]) (by kernel_rfl) (by simp) ?_
                            refine AllReadyH.cons (o := ({ dst := some 111, op := Op.call { callee := Callee.value (Operand.func 26), args := #[Operand.tmp 110], argTypes := #[48] }, type := 53, pos := _, after := _, guard := _ } : Oper)) rfl (fun K hK => ?_) AllReadyH.nil
                            · go_simp
                              go_at_call 26
                              refine (to_V _ _ _ _ _ _ _).mono ?_
                              rintro e w3 ⟨rfl, hb3⟩
                              have Ra_3 := hide (Ra_2.out.keep hb3)
                              have b3 := hide (b2.out.trans (hb3.mono b2.out.size))
                              refine hK.out _ _ (HS.out _ b3.out) (fun hH3 => ?_)
                              clear hK K hb3
                              refine wpAnyH_ready (rs := [13]) (by kernel_rfl) (by simp) ?_
                              refine AllReadyH.cons (o := ({ dst := some 113, op := Op.call { callee := Callee.value (Operand.func 29), args := #[Operand.tmp 107, Operand.tmp 109, Operand.tmp 111, Operand.tmp 112], argTypes := #[29, 3, 53, 3] }, type := 29, pos := _, after := _, guard := _ } : Oper)) rfl (fun K hK => ?_) AllReadyH.nil
                              · go_simp
                                go_at_call 29
                                refine (setJ9 (HA.out.keep b3.out).ry OJ.out (by omega) i u z1).mono ?_
                                rintro e w4 ⟨yRb, rfl, hb4, hR4⟩
                                have Ra_4 := hide (Ra_3.out.keep hb4)
                                have Rb_4 := hide hR4
                                clear hR4
                                have b4 := hide (b3.out.trans (hb4.mono b3.out.size))
                                refine hK.out _ _ (HS.out _ b4.out) (fun hH4 => ?_)
                                clear hK K hb4
                                refine wpAnyH_ready (rs := [14]) (by kernel_rfl) (by simp) ?_
                                refine AllReadyH.cons (o := ({ dst := some 114, op := Op.call { callee := Callee.value (Operand.func 18), args := #[Operand.tmp 106, Operand.tmp 113], argTypes := #[29, 29] }, type := 4, pos := _, after := _, guard := _ } : Oper)) rfl (fun K hK => ?_) AllReadyH.nil
                                · go_simp
                                  go_at_call 18
                                  refine (withinT9 Ra_4.out Rb_4.out (set_ok OX.out (by omega) i HU.out z1) (set_ok OJ.out (by omega) i HU.out z1) (by omega) (mono_set OX.out OJ.out HW.out i HU.out z1)).mono ?_
                                  rintro e w5 ⟨rfl, hb5⟩
                                  have b5 := hide (b4.out.trans (hb5.mono b4.out.size))
                                  refine hK.out _ _ (HS.out _ b5.out) (fun hH5 => ?_)
                                  clear hK K hb5
                                  refine wpAnyH_take (i := 15) (oi := ({ dst := some 115, op := Op.move (Operand.tmp 114), type := 4, pos := _, after := _, guard := _ } : Oper)) (v := ?_) rfl (by kernel_rfl) (by kernel_rfl) (by kernel_rfl) (fun _ _ _ h => h) (Or.inl ⟨by rfl, ?_⟩) (by assumption) ?_
                                  rotate_left
                                  · (intro wz hSw; (try dsimp only at hSw); go_simp; try with_reducible rfl)
                                  simp only [Act.put, List.setIfInBounds_toArray, List.set_cons_zero, List.set_cons_succ]
                                  refine wpAnyH_take (i := 16) (oi := ({ dst := some 116, op := Op.load 29 (Operand.tmp 10), type := 29, pos := _, after := _, guard := _ } : Oper)) (v := ?_) rfl (by kernel_rfl) (by kernel_rfl) (by kernel_rfl) (fun _ _ _ h => h) (Or.inl ⟨by rfl, ?_⟩) (by assumption) ?_
                                  rotate_left
                                  · (intro wz hSw; (try dsimp only at hSw); go_simp; try with_reducible rfl)
                                  simp only [Act.put, List.setIfInBounds_toArray, List.set_cons_zero, List.set_cons_succ]
                                  refine wpAnyH_take (i := 17) (oi := ({ dst := some 117, op := Op.move (Operand.tmp 9), type := 3, pos := _, after := _, guard := _ } : Oper)) (v := ?_) rfl (by kernel_rfl) (by kernel_rfl) (by kernel_rfl) (fun _ _ _ h => h) (Or.inl ⟨by rfl, ?_⟩) (by assumption) ?_
                                  rotate_left
                                  · (intro wz hSw; (try dsimp only at hSw); go_simp; try with_reducible rfl)
                                  simp only [Act.put, List.setIfInBounds_toArray, List.set_cons_zero, List.set_cons_succ]
                                  refine wpAnyH_take (i := 19) (oi := ({ dst := some 119, op := Op.load 29 (Operand.tmp 11), type := 29, pos := _, after := _, guard := _ } : Oper)) (v := ?_) rfl (by kernel_rfl) (by kernel_rfl) (by kernel_rfl) (fun _ _ _ h => h) (Or.inl ⟨by rfl, ?_⟩) (by assumption) ?_
                                  rotate_left
                                  · (intro wz hSw; (try dsimp only at hSw); go_simp; try with_reducible rfl)
                                  simp only [Act.put, List.setIfInBounds_toArray, List.set_cons_zero, List.set_cons_succ]
                                  refine wpAnyH_take (i := 20) (oi := ({ dst := some 120, op := Op.move (Operand.tmp 9), type := 3, pos := _, after := _, guard := _ } : Oper)) (v := ?_) rfl (by kernel_rfl) (by kernel_rfl) (by kernel_rfl) (fun _ _ _ h => h) (Or.inl ⟨by rfl, ?_⟩) (by assumption) ?_
                                  rotate_left
                                  · (intro wz hSw; (try dsimp only at hSw); go_simp; try with_reducible rfl)
                                  simp only [Act.put, List.setIfInBounds_toArray, List.set_cons_zero, List.set_cons_succ]
                                  refine wpAnyH_ready (rs := [18]) (by kernel_rfl) (by simp) ?_
                                  refine AllReadyH.cons (o := ({ dst := some 118, op := Op.call { callee := Callee.value (Operand.func 31), args := #[Operand.tmp 116, Operand.tmp 117], argTypes := #[29, 3] }, type := 29, pos := _, after := _, guard := _ } : Oper)) rfl (fun K hK => ?_) AllReadyH.nil
                                  · go_simp
                                    go_at_call 31
                                    refine (shiftJ9 (HA.out.keep b5.out).rx OX.out (by omega) LX.out z2 HZ2.out.1 HZ2.out.2).mono ?_
                                    rintro e w6 ⟨yRc, rfl, hb6, hR6⟩
                                    have Rc_6 := hide hR6
                                    clear hR6
                                    have b6 := hide (b5.out.trans (hb6.mono b5.out.size))
                                    refine hK.out _ _ (HS.out _ b6.out) (fun hH6 => ?_)
                                    clear hK K hb6
                                    refine wpAnyH_ready (rs := [21]) (by kernel_rfl) (by simp) ?_
                                    refine AllReadyH.cons (o := ({ dst := some 121, op := Op.call { callee := Callee.value (Operand.func 31), args := #[Operand.tmp 119, Operand.tmp 120], argTypes := #[29, 3] }, type := 29, pos := _, after := _, guard := _ } : Oper)) rfl (fun K hK => ?_) AllReadyH.nil
                                    · go_simp
                                      go_at_call 31
                                      refine (shiftJ9 (HA.out.keep b6.out).ry OJ.out (by omega) LJ.out z2 HZ2.out.1 HZ2.out.2).mono ?_
                                      rintro e w7 ⟨yRd, rfl, hb7, hR7⟩
                                      have Rc_7 := hide (Rc_6.out.keep hb7)
                                      have Rd_7 := hide hR7
                                      clear hR7
                                      have b7 := hide (b6.out.trans (hb7.mono b6.out.size))
                                      refine hK.out _ _ (HS.out _ b7.out) (fun hH7 => ?_)
                                      clear hK K hb7
                                      refine wpAnyH_ready (rs := [22]) (by kernel_rfl) (by simp) ?_
                                      refine AllReadyH.cons (o := ({ dst := some 122, op := Op.call { callee := Callee.value (Operand.func 18), args := #[Operand.tmp 118, Operand.tmp 121], argTypes := #[29, 29] }, type := 4, pos := _, after := _, guard := _ } : Oper)) rfl (fun K hK => ?_) AllReadyH.nil
                                      · go_simp
                                        go_at_call 18
                                        refine (withinT9 Rc_7.out Rd_7.out (shift_ok OX.out z2) (shift_ok OJ.out z2) (by omega) (mono_shift OX.out OJ.out HW.out z2)).mono ?_
                                        rintro e w8 ⟨rfl, hb8⟩
                                        have b8 := hide (b7.out.trans (hb8.mono b7.out.size))
                                        refine hK.out _ _ (HS.out _ b8.out) (fun hH8 => ?_)
                                        clear hK K hb8
                                        refine wpAnyH_take (i := 23) (oi := ({ dst := some 123, op := Op.pick (Operand.tmp 115) (Operand.tmp 122) (Operand.const (Value.bool false)), type := 4, pos := _, after := _, guard := _ } : Oper)) (v := ?_) rfl (by kernel_rfl) (by kernel_rfl) (by kernel_rfl) (fun _ _ _ h => h) (Or.inl ⟨by rfl, ?_⟩) (by assumption) ?_
                                        rotate_left
                                        · (intro wz hSw; (try dsimp only at hSw); go_simp; try with_reducible rfl)
                                        simp only [Act.put, List.setIfInBounds_toArray, List.set_cons_zero, List.set_cons_succ]
                                        refine wpAnyH_take (i := 24) (oi := ({ dst := some 124, op := Op.move (Operand.tmp 123), type := 4, pos := _, after := _, guard := _ } : Oper)) (v := ?_) rfl (by kernel_rfl) (by kernel_rfl) (by kernel_rfl) (fun _ _ _ h => h) (Or.inl ⟨by rfl, ?_⟩) (by assumption) ?_
                                        rotate_left
                                        · (intro wz hSw; (try dsimp only at hSw); go_simp; try with_reducible rfl)
                                        simp only [Act.put, List.setIfInBounds_toArray, List.set_cons_zero, List.set_cons_succ]
                                        refine wpAnyH_take (i := 25) (oi := ({ dst := some 125, op := Op.load 29 (Operand.tmp 10), type := 29, pos := _, after := _, guard := _ } : Oper)) (v := ?_) rfl (by kernel_rfl) (by kernel_rfl) (by kernel_rfl) (fun _ _ _ h => h) (Or.inl ⟨by rfl, ?_⟩) (by assumption) ?_
                                        rotate_left
                                        · (intro wz hSw; (try dsimp only at hSw); go_simp; try with_reducible rfl)
                                        simp only [Act.put, List.setIfInBounds_toArray, List.set_cons_zero, List.set_cons_succ]
                                        refine wpAnyH_take (i := 26) (oi := ({ dst := some 126, op := Op.fieldAddr 60 (Operand.tmp 5) 0, type := 0, pos := _, after := _, guard := _ } : Oper)) (v := ?_) rfl (by kernel_rfl) (by kernel_rfl) (by kernel_rfl) (fun _ _ _ h => h) (Or.inl ⟨by rfl, ?_⟩) (by assumption) ?_
                                        rotate_left
                                        · (intro wz hSw; (try dsimp only at hSw); go_simp; try with_reducible rfl)
                                        simp only [Act.put, List.setIfInBounds_toArray, List.set_cons_zero, List.set_cons_succ]
                                        refine wpAnyH_take (i := 27) (oi := ({ dst := some 127, op := Op.load 3 (Operand.tmp 126), type := 3, pos := _, after := _, guard := _ } : Oper)) (v := ?_) rfl (by kernel_rfl) (by kernel_rfl) (by kernel_rfl) (fun _ _ _ h => h) (Or.inl ⟨by rfl, ?_⟩) (by assumption) ?_
                                        rotate_left
                                        · (intro wz hSw; (try dsimp only at hSw); go_simp; try with_reducible rfl)
                                        simp only [Act.put, List.setIfInBounds_toArray, List.set_cons_zero, List.set_cons_succ]
                                        refine wpAnyH_take (i := 29) (oi := ({ dst := some 129, op := Op.load 29 (Operand.tmp 11), type := 29, pos := _, after := _, guard := _ } : Oper)) (v := ?_) rfl (by kernel_rfl) (by kernel_rfl) (by kernel_rfl) (fun _ _ _ h => h) (Or.inl ⟨by rfl, ?_⟩) (by assumption) ?_
                                        rotate_left
                                        · (intro wz hSw; (try dsimp only at hSw); go_simp; try with_reducible rfl)
                                        simp only [Act.put, List.setIfInBounds_toArray, List.set_cons_zero, List.set_cons_succ]
                                        refine wpAnyH_take (i := 30) (oi := ({ dst := some 130, op := Op.fieldAddr 60 (Operand.tmp 5) 0, type := 0, pos := _, after := _, guard := _ } : Oper)) (v := ?_) rfl (by kernel_rfl) (by kernel_rfl) (by kernel_rfl) (fun _ _ _ h => h) (Or.inl ⟨by rfl, ?_⟩) (by assumption) ?_
                                        rotate_left
                                        · (intro wz hSw; (try dsimp only at hSw); go_simp; try with_reducible rfl)
                                        simp only [Act.put, List.setIfInBounds_toArray, List.set_cons_zero, List.set_cons_succ]
                                        refine wpAnyH_take (i := 31) (oi := ({ dst := some 131, op := Op.load 3 (Operand.tmp 130), type := 3, pos := _, after := _, guard := _ } : Oper)) (v := ?_) rfl (by kernel_rfl) (by kernel_rfl) (by kernel_rfl) (fun _ _ _ h => h) (Or.inl ⟨by rfl, ?_⟩) (by assumption) ?_
                                        rotate_left
                                        · (intro wz hSw; (try dsimp only at hSw); go_simp; try with_reducible rfl)
                                        simp only [Act.put, List.setIfInBounds_toArray, List.set_cons_zero, List.set_cons_succ]
                                        refine wpAnyH_ready (rs := [28]) (by kernel_rfl) (by simp) ?_
                                        refine AllReadyH.cons (o := ({ dst := some 128, op := Op.call { callee := Callee.value (Operand.func 33), args := #[Operand.tmp 125, Operand.tmp 127, Operand.const (Value.bool true)], argTypes := #[29, 3, 4] }, type := 29, pos := _, after := _, guard := _ } : Oper)) rfl (fun K hK => ?_) AllReadyH.nil
                                        · go_simp
                                          go_at_call 33
                                          refine (branchJ9 (HA.out.keep b8.out).rx OX.out (by omega) i true).mono ?_
                                          rintro e w9 ⟨yRe, rfl, hb9, hR9⟩
                                          have Re_9 := hide hR9
                                          clear hR9
                                          have b9 := hide (b8.out.trans (hb9.mono b8.out.size))
                                          refine hK.out _ _ (HS.out _ b9.out) (fun hH9 => ?_)
                                          clear hK K hb9
                                          refine wpAnyH_ready (rs := [32]) (by kernel_rfl) (by simp) ?_
                                          refine AllReadyH.cons (o := ({ dst := some 132, op := Op.call { callee := Callee.value (Operand.func 33), args := #[Operand.tmp 129, Operand.tmp 131, Operand.const (Value.bool true)], argTypes := #[29, 3, 4] }, type := 29, pos := _, after := _, guard := _ } : Oper)) rfl (fun K hK => ?_) AllReadyH.nil
                                          · go_simp
                                            go_at_call 33
                                            refine (branchJ9 (HA.out.keep b9.out).ry OJ.out (by omega) i true).mono ?_
                                            rintro e w10 ⟨yRf, rfl, hb10, hR10⟩
                                            have Re_10 := hide (Re_9.out.keep hb10)
                                            have Rf_10 := hide hR10
                                            clear hR10
                                            have b10 := hide (b9.out.trans (hb10.mono b9.out.size))
                                            refine hK.out _ _ (HS.out _ b10.out) (fun hH10 => ?_)
                                            clear hK K hb10
                                            refine wpAnyH_ready (rs := [33]) (by kernel_rfl) (by simp) ?_
                                            refine AllReadyH.cons (o := ({ dst := some 133, op := Op.call { callee := Callee.value (Operand.func 18), args := #[Operand.tmp 128, Operand.tmp 132], argTypes := #[29, 29] }, type := 4, pos := _, after := _, guard := _ } : Oper)) rfl (fun K hK => ?_) AllReadyH.nil
                                            · go_simp
                                              go_at_call 18
                                              refine (withinT9 Re_10.out Rf_10.out (branch_okS OX.out i true) (branch_okS OJ.out i true) (by omega) (mono_branch OX.out OJ.out HW.out i true)).mono ?_
                                              rintro e w11 ⟨rfl, hb11⟩
                                              have b11 := hide (b10.out.trans (hb11.mono b10.out.size))
                                              refine hK.out _ _ (HS.out _ b11.out) (fun hH11 => ?_)
                                              clear hK K hb11
                                              refine wpAnyH_take (i := 34) (oi := ({ dst := some 134, op := Op.pick (Operand.tmp 124) (Operand.tmp 133) (Operand.const (Value.bool false)), type := 4, pos := _, after := _, guard := _ } : Oper)) (v := ?_) rfl (by kernel_rfl) (by kernel_rfl) (by kernel_rfl) (fun _ _ _ h => h) (Or.inl ⟨by rfl, ?_⟩) (by assumption) ?_
                                              rotate_left
                                              · (intro wz hSw; (try dsimp only at hSw); go_simp; try with_reducible rfl)
                                              simp only [Act.put, List.setIfInBounds_toArray, List.set_cons_zero, List.set_cons_succ]
                                              refine wpAnyH_take (i := 35) (oi := ({ dst := some 135, op := Op.move (Operand.tmp 134), type := 4, pos := _, after := _, guard := _ } : Oper)) (v := ?_) rfl (by kernel_rfl) (by kernel_rfl) (by kernel_rfl) (fun _ _ _ h => h) (Or.inl ⟨by rfl, ?_⟩) (by assumption) ?_
                                              rotate_left
                                              · (intro wz hSw; (try dsimp only at hSw); go_simp; try with_reducible rfl)
                                              simp only [Act.put, List.setIfInBounds_toArray, List.set_cons_zero, List.set_cons_succ]
                                              refine wpAnyH_take (i := 36) (oi := ({ dst := some 136, op := Op.load 29 (Operand.tmp 10), type := 29, pos := _, after := _, guard := _ } : Oper)) (v := ?_) rfl (by kernel_rfl) (by kernel_rfl) (by kernel_rfl) (fun _ _ _ h => h) (Or.inl ⟨by rfl, ?_⟩) (by assumption) ?_
                                              rotate_left
                                              · (intro wz hSw; (try dsimp only at hSw); go_simp; try with_reducible rfl)
                                              simp only [Act.put, List.setIfInBounds_toArray, List.set_cons_zero, List.set_cons_succ]
                                              refine wpAnyH_take (i := 37) (oi := ({ dst := some 137, op := Op.fieldAddr 60 (Operand.tmp 5) 0, type := 0, pos := _, after := _, guard := _ } : Oper)) (v := ?_) rfl (by kernel_rfl) (by kernel_rfl) (by kernel_rfl) (fun _ _ _ h => h) (Or.inl ⟨by rfl, ?_⟩) (by assumption) ?_
                                              rotate_left
                                              · (intro wz hSw; (try dsimp only at hSw); go_simp; try with_reducible rfl)
                                              simp only [Act.put, List.setIfInBounds_toArray, List.set_cons_zero, List.set_cons_succ]
                                              refine wpAnyH_take (i := 38) (oi := ({ dst := some 138, op := Op.load 3 (Operand.tmp 137), type := 3, pos := _, after := _, guard := _ } : Oper)) (v := ?_) rfl (by kernel_rfl) (by kernel_rfl) (by kernel_rfl) (fun _ _ _ h => h) (Or.inl ⟨by rfl, ?_⟩) (by assumption) ?_
                                              rotate_left
                                              · (intro wz hSw; (try dsimp only at hSw); go_simp; try with_reducible rfl)
                                              simp only [Act.put, List.setIfInBounds_toArray, List.set_cons_zero, List.set_cons_succ]
                                              refine wpAnyH_take (i := 40) (oi := ({ dst := some 140, op := Op.load 29 (Operand.tmp 11), type := 29, pos := _, after := _, guard := _ } : Oper)) (v := ?_) rfl (by kernel_rfl) (by kernel_rfl) (by kernel_rfl) (fun _ _ _ h => h) (Or.inl ⟨by rfl, ?_⟩) (by assumption) ?_
                                              rotate_left
                                              · (intro wz hSw; (try dsimp only at hSw); go_simp; try with_reducible rfl)
                                              simp only [Act.put, List.setIfInBounds_toArray, List.set_cons_zero, List.set_cons_succ]
                                              refine wpAnyH_take (i := 41) (oi := ({ dst := some 141, op := Op.fieldAddr 60 (Operand.tmp 5) 0, type := 0, pos := _, after := _, guard := _ } : Oper)) (v := ?_) rfl (by kernel_rfl) (by kernel_rfl) (by kernel_rfl) (fun _ _ _ h => h) (Or.inl ⟨by rfl, ?_⟩) (by assumption) ?_
                                              rotate_left
                                              · (intro wz hSw; (try dsimp only at hSw); go_simp; try with_reducible rfl)
                                              simp only [Act.put, List.setIfInBounds_toArray, List.set_cons_zero, List.set_cons_succ]
                                              refine wpAnyH_take (i := 42) (oi := ({ dst := some 142, op := Op.load 3 (Operand.tmp 141), type := 3, pos := _, after := _, guard := _ } : Oper)) (v := ?_) rfl (by kernel_rfl) (by kernel_rfl) (by kernel_rfl) (fun _ _ _ h => h) (Or.inl ⟨by rfl, ?_⟩) (by assumption) ?_
                                              rotate_left
                                              · (intro wz hSw; (try dsimp only at hSw); go_simp; try with_reducible rfl)
                                              simp only [Act.put, List.setIfInBounds_toArray, List.set_cons_zero, List.set_cons_succ]
                                              refine wpAnyH_ready (rs := [39]) (by kernel_rfl) (by simp) ?_
                                              refine AllReadyH.cons (o := ({ dst := some 139, op := Op.call { callee := Callee.value (Operand.func 33), args := #[Operand.tmp 136, Operand.tmp 138, Operand.const (Value.bool false)], argTypes := #[29, 3, 4] }, type := 29, pos := _, after := _, guard := _ } : Oper)) rfl (fun K hK => ?_) AllReadyH.nil
                                              · go_simp
                                                go_at_call 33
                                                refine (branchJ9 (HA.out.keep b11.out).rx OX.out (by omega) i false).mono ?_
                                                rintro e w12 ⟨yRg, rfl, hb12, hR12⟩
                                                have Rg_12 := hide hR12
                                                clear hR12
                                                have b12 := hide (b11.out.trans (hb12.mono b11.out.size))
                                                refine hK.out _ _ (HS.out _ b12.out) (fun hH12 => ?_)
                                                clear hK K hb12
                                                refine wpAnyH_ready (rs := [43]) (by kernel_rfl) (by simp) ?_
                                                refine AllReadyH.cons (o := ({ dst := some 143, op := Op.call { callee := Callee.value (Operand.func 33), args := #[Operand.tmp 140, Operand.tmp 142, Operand.const (Value.bool false)], argTypes := #[29, 3, 4] }, type := 29, pos := _, after := _, guard := _ } : Oper)) rfl (fun K hK => ?_) AllReadyH.nil
                                                · go_simp
                                                  go_at_call 33
                                                  refine (branchJ9 (HA.out.keep b12.out).ry OJ.out (by omega) i false).mono ?_
                                                  rintro e w13 ⟨yRh, rfl, hb13, hR13⟩
                                                  have Rg_13 := hide (Rg_12.out.keep hb13)
                                                  have Rh_13 := hide hR13
                                                  clear hR13
                                                  have b13 := hide (b12.out.trans (hb13.mono b12.out.size))
                                                  refine hK.out _ _ (HS.out _ b13.out) (fun hH13 => ?_)
                                                  clear hK K hb13
                                                  refine wpAnyH_ready (rs := [44]) (by kernel_rfl) (by simp) ?_
                                                  refine AllReadyH.cons (o := ({ dst := some 144, op := Op.call { callee := Callee.value (Operand.func 18), args := #[Operand.tmp 139, Operand.tmp 143], argTypes := #[29, 29] }, type := 4, pos := _, after := _, guard := _ } : Oper)) rfl (fun K hK => ?_) AllReadyH.nil
                                                  · go_simp
                                                    go_at_call 18
                                                    refine (withinT9 Rg_13.out Rh_13.out (branch_okS OX.out i false) (branch_okS OJ.out i false) (by omega) (mono_branch OX.out OJ.out HW.out i false)).mono ?_
                                                    rintro e w14 ⟨rfl, hb14⟩
                                                    have b14 := hide (b13.out.trans (hb14.mono b13.out.size))
                                                    refine hK.out _ _ (HS.out _ b14.out) (fun hH14 => ?_)
                                                    clear hK K hb14
                                                    refine wpAnyH_take (i := 45) (oi := ({ dst := some 145, op := Op.pick (Operand.tmp 135) (Operand.tmp 144) (Operand.const (Value.bool false)), type := 4, pos := _, after := _, guard := _ } : Oper)) (v := ?_) rfl (by kernel_rfl) (by kernel_rfl) (by kernel_rfl) (fun _ _ _ h => h) (Or.inl ⟨by rfl, ?_⟩) (by assumption) ?_
                                                    rotate_left
                                                    · (intro wz hSw; (try dsimp only at hSw); go_simp; try with_reducible rfl)
                                                    simp only [Act.put, List.setIfInBounds_toArray, List.set_cons_zero, List.set_cons_succ]
                                                    refine wpAnyH_take (i := 46) (oi := ({ dst := some 6, op := Op.assign (Operand.tmp 145), type := 4, pos := _, after := _, guard := _ } : Oper)) (v := ?_) rfl (by kernel_rfl) (by kernel_rfl) (by kernel_rfl) (fun _ _ _ h => h) (Or.inl ⟨by rfl, ?_⟩) (by assumption) ?_
                                                    rotate_left
                                                    · (intro wz hSw; (try dsimp only at hSw); go_simp; try with_reducible rfl)
                                                    simp only [Act.put, List.setIfInBounds_toArray, List.set_cons_zero, List.set_cons_succ]
                                                    refine wpAnyH_done (by kernel_rfl) ?_ _
                                                    have HE := hide (HA.out.keep b14.out)
                                                    clear HS b14 hH14 HA
                                                    go_wp2
                                                    go_ret
                                                    exact ⟨by simp, HN.out ▸ HE.out.bel⟩
                      · have hny2 : ¬ ((ny : Int) = (nx : Int)) := by omega
                        go_upto_region 12 with (go_at_call 13; refine (sameK9 HA.out.rx HA.out.ra OX.out (by omega)).mono ?_; rintro e w5 ⟨rfl, hb5⟩; have H5 := hide (HA.out.keep hb5); clear e0 e1 e2 f0 f1 f2 g0 g1 g2; clear HA hb5; have e0 := H5.out.b3.c0; have e1 := H5.out.b3.c1; have e2 := H5.out.b3.c2; have f0 := H5.out.b10.c0; have f1 := H5.out.b10.c1; have f2 := H5.out.b10.c2; have g0 := H5.out.b11.c0; have g1 := H5.out.b11.c1; have g2 := H5.out.b11.c2)
                        go_wp2_with (go_at_call 13; refine (sameK9 H5.out.rx H5.out.ra OX.out (by omega)).mono ?_; rintro e w6 ⟨rfl, hb6⟩; have H6 := hide (H5.out.keep hb6); clear e0 e1 e2 f0 f1 f2 g0 g1 g2; clear H5 hb6)
                        go_ret
                        exact ⟨by simp, HN.out ▸ H6.out.bel⟩
end Go.Proofs.Ytmhicllhjiglkaa
