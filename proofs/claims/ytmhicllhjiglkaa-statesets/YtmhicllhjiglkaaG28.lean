import Derived.Test.YtmhicllhjiglkaaG23
import Derived.Test.YtmhicllhjiglkaaG25
import Derived.Test.YtmhicllhjiglkaaG27
import Derived.Test.YtmhicllhjiglkaaG18
namespace Go.Proofs.Ytmhicllhjiglkaa
open Go.RowKit
theorem joinJ9 {w : World} {v1 v2 : Value} {x y : VS} {n m : Nat} (h1 : Rs w v1 x.raw) (h2 : Rs w v2 y.raw) (k1 : VOk n x) (k2 : VOk m y) (hn : n ≤ 5000) (hm : m ≤ 5000) :
    Calls Try.prog 14 #[v1, v2] w fun e w' => ∃ v, e = .returned v ∧ Below w.heap.size w w' ∧ Rs w' v (togV joinV x y).raw := by
  refine (join_S h1 h2 k1 k2 hn hm).mono ?_
  rintro e w' ⟨v, rfl, hR, hB⟩
  exact ⟨v, rfl, hB, hR.rs⟩
theorem widenJ9 {w : World} {v1 v2 : Value} {x y : VS} {n m : Nat} (h1 : Rs w v1 x.raw) (h2 : Rs w v2 y.raw) (k1 : VOk n x) (k2 : VOk m y) (hn : n ≤ 5000) (hm : m ≤ 5000) :
    Calls Try.prog 16 #[v1, v2] w fun e w' => ∃ v, e = .returned v ∧ Below w.heap.size w w' ∧ Rs w' v (togV widenV x y).raw := by
  refine (widen_S h1 h2 k1 k2 hn hm).mono ?_
  rintro e w' ⟨v, rfl, hR, hB⟩
  exact ⟨v, rfl, hB, hR.rs⟩
theorem same_V {w : World} {v1 v2 : Value} {x : VS} {n : Nat} (h1 : Rs w v1 x.raw) (h2 : Rs w v2 x.raw) (k : VOk n x) (hn : n ≤ 5000) : Calls Try.prog 13 #[v1, v2] w fun e w' => e = .returned (.bool true) ∧ Below w.heap.size w w' := by
  have i3 := k.le
  have i1 := k.len
  exact same_S h1 h2 (by unfold VS.raw; dsimp only; rw [List.length_map]; omega) (by unfold VS.raw; dsimp only; omega) (k.inner hn)
theorem equal_V {w : World} {v1 v2 : Value} {x y : VS} {n m : Nat} (h1 : Rs w v1 x.raw) (h2 : Rs w v2 y.raw) (k1 : VOk n x) (k2 : VOk m y) (hn : n ≤ 5000) (hm : m ≤ 5000) :
    Calls Try.prog 20 #[v1, v2] w fun e w' => ∃ bv, e = .returned (.bool bv) ∧ Below w.heap.size w w' ∧ (bv = true ↔ x.raw = y.raw) := by
  have i3 := k1.le
  have i1 := k1.len
  have i4 := k2.le
  have i2 := k2.len
  exact equal_S h1 h2 (by unfold VS.raw; dsimp only; rw [List.length_map]; omega) (by unfold VS.raw; dsimp only; rw [List.length_map]; omega) (by unfold VS.raw; dsimp only; omega) (by unfold VS.raw; dsimp only; omega) (fun l hl => by have := (k1.up l hl).2; omega) (fun l hl => by have := (k2.up l hl).2; omega)
theorem equalr_V {w : World} {v1 v2 : Value} {x y : VS} {n m : Nat} (h1 : Rs w v1 x.raw) (h2 : Rs w v2 y.raw) (k1 : VOk n x) (k2 : VOk m y) (hn : n ≤ 5000) (hm : m ≤ 5000) :
    Calls Try.prog 21 #[v1, v2] w fun e w' => ∃ bv, e = .returned (.bool bv) ∧ Below w.heap.size w w' ∧ (bv = true ↔ x.raw = y.raw) := by
  have i3 := k1.le
  have i1 := k1.len
  have hi1 : ∀ l ∈ x.raw.ss, l.length ≤ 100000 := fun l hl => by have := (k1.up l hl).2; omega
  have hi2 : ∀ l ∈ y.raw.ss, l.length ≤ 100000 := fun l hl => by have := (k2.up l hl).2; omega
  have l1 : x.raw.vs.length ≤ 100000 := by unfold VS.raw; dsimp only; rw [List.length_map]; omega
  have l2 : x.raw.ss.length ≤ 100000 := by unfold VS.raw; dsimp only; omega
  obtain ⟨a, c, b, d, rfl, e1, e2, -⟩ := h1
  obtain ⟨a2, c2, b2, d2, rfl, f1, f2, -⟩ := h2
  generalize x.raw = s at *
  generalize y.raw = t at *
  obtain ⟨r, vs, ss⟩ := s
  obtain ⟨r2, ts, tt⟩ := t
  refine (equalr_any a b a2 b2 c d c2 d2 r r2 vs ts ss tt w e1 e2 f1 f2 l1 l2 hi1 hi2).mono ?_
  rintro e w' ⟨bv, rfl, hB, hi⟩
  exact ⟨bv, rfl, hB, by rw [hi, S.mk.injEq]⟩
theorem copyJ9 {w : World} {v : Value} {x : VS} {n : Nat} (h : Rs w v x.raw) (k : VOk n x) (hn : n ≤ 5000) : Calls Try.prog 22 #[v] w fun e w' => ∃ v', e = .returned v' ∧ Below w.heap.size w w' ∧ Rs w' v' x.raw := by
  obtain ⟨a, c, b, d, rfl, h1, h2, h3, h4, h5, h6⟩ := h
  have i3 := k.le
  have i1 := k.len
  refine (copy_S a b c d x.raw.r x.raw.vs x.raw.ss w h1 h2 h3 h5 (by unfold VS.raw; dsimp only; rw [List.length_map]; omega) (by unfold VS.raw; dsimp only; omega) (k.inner hn)).mono ?_
  rintro e w' ⟨v', rfl, hR, hB⟩
  exact ⟨v', rfl, hB, hR.rs⟩
theorem boxes2t (w : World) (r : Bool) (va sa : Value) (r1 : Bool) (va1 sa1 : Value) (t0 t1 : TypeId) :
    ∀ W, (w.alloc (.cells #[.bool r, va, sa] t0)).alloc (.cells #[.bool r1, va1, sa1] t1) = W →
    Tw w.heap.size (w.heap.size + 1 + 1) w W W w.heap.size (w.heap.size + 1) r va sa r1 va1 sa1 := by
  rintro W rfl
  have sz : ∀ (u : World) (o : Obj), (u.alloc o).heap.size = u.heap.size + 1 := fun u o => by simp
  obtain ⟨B0, F0, B1, F1, u⟩ := boxes2 w r va sa r1 va1 sa1 t0 t1 _ rfl
  exact ⟨B0, F0, B1, F1, u, Nat.le_refl _, Nat.le_succ _, by omega, by omega, by omega, by rw [sz, sz]; exact Nat.le_refl _, fun _ _ _ _ => rfl⟩
/-- all that stands behind 'x, y := ..' -/
structure He (N : Nat) (w0 w : World) (p q k5 k6 : Nat) (q0 : Bool) (v0 s0 : Value) (q1 : Bool) (v1 s1 : Value) (qx : Bool) (vx sx : Value) (qy : Bool) (vy sy : Value) (x y : VS) : Prop where
  b2 : Bs w p q0 v0 s0
  b3 : Bs w q q1 v1 s1
  b5 : Bs w k5 qx vx sx
  b6 : Bs w k6 qy vy sy
  ra : Rs w (.agg #[.bool q0, v0, s0]) x.raw
  rb : Rs w (.agg #[.bool q1, v1, s1]) y.raw
  rx : Rs w (.agg #[.bool qx, vx, sx]) x.raw
  ry : Rs w (.agg #[.bool qy, vy, sy]) y.raw
  bel : Below N w0 w
  le : N ≤ w.heap.size
theorem He.keep {N : Nat} {w0 w w' : World} {p q k5 k6 : Nat} {q0 : Bool} {v0 s0 : Value} {q1 : Bool} {v1 s1 : Value} {qx : Bool} {vx sx : Value} {qy : Bool} {vy sy : Value} {x y : VS} (h : He N w0 w p q k5 k6 q0 v0 s0 q1 v1 s1 qx vx sx qy vy sy x y) (hb : Below w.heap.size w w') : He N w0 w' p q k5 k6 q0 v0 s0 q1 v1 s1 qx vx sx qy vy sy x y :=
  ⟨h.b2.keep hb, h.b3.keep hb, h.b5.keep hb, h.b6.keep hb, h.ra.keep hb, h.rb.keep hb, h.rx.keep hb, h.ry.keep hb, h.bel.trans (hb.mono h.le), Nat.le_trans h.le hb.size⟩
set_option maxRecDepth 100000 in
set_option maxHeartbeats 8000000 in
theorem stateSets_walk (a0 g0 a1 g1 : Option Addr) (c0 d0 c1 d1 : Nat) (r0 r1 : Bool) (vs0 vs1 : List R) (ss0 ss1 : List (List Int)) (w : World)
    (hv0 : RV w a0 vs0) (hs0 : RR w g0 ss0) (hi0 : ∀ (m : Nat) (x : R), vs0[m]? = some x → i64 x.n ∧ i64 x.lo ∧ i64 x.hi)
    (hv1 : RV w a1 vs1) (hs1 : RR w g1 ss1) (hi1 : ∀ (m : Nat) (x : R), vs1[m]? = some x → i64 x.n ∧ i64 x.lo ∧ i64 x.hi) :
    Calls Try.prog 3 #[.agg #[.bool r0, .slice a0 vs0.length c0, .slice g0 ss0.length d0], .agg #[.bool r1, .slice a1 vs1.length c1, .slice g1 ss1.length d1]] w fun e w' => e = .returned (.bool true) ∧ Below w.heap.size w w' := by
  have cA := fix_pre9 (c := c0) (d := d0) (r := r0) hv0 hs0 hi0
  have cB := fix_pre9 (c := c1) (d := d1) (r := r1) hv1 hs1 hi1
  clear hv0 hs0 hi0 hv1 hs1 hi1
  go_enter Try.func3, Try.ntmps3
  go_upto_region 1 with fail
  go_name_world W hW
  have T0 := boxes2t w _ _ _ _ _ _ _ _ W hW
  clear hW
  obtain ⟨N, hN⟩ : ∃ z9, z9 = w.heap.size := ⟨_, rfl⟩
  rw [← hN] at T0 cA cB ⊢
  have HN : Hid (N = w.heap.size) := hN
  clear hN
  refine fx3 _ _ N _ w W N (N + 1) r0 _ _ r1 _ _ (cA _) (cB _) ?_ W T0
  clear cA cB T0
  intro v q0 v0 s0 q1 v1 s1 x y T R0 R1 O0 O1
  dsimp only [fxAct3]
  have ox : VOk 60 x := (O0.vok (by omega)).2
  have oy : VOk 60 y := (O1.vok (by omega)).2
  clear O0 O1
  go_upto_region 2 with fail
  refine tt3 (fun _ _ d _ _ h => by cases d <;> exact h) _ _ _ _ _ _ N (N + 1) q0 v0 s0 q1 v1 s1 x y v T.b0 T.b1 R0.rs R1.rs ox oy ?_
  intro w5 k5 k6 qx xa xn xc xb xm xd qy ya yn yc yb ym yd K5 K6 RX RY b5
  dsimp only [tt3Act]
  have HA : Hid (He N w w5 N (N + 1) k5 k6 q0 v0 s0 q1 v1 s1 qx (.slice xa xn xc) (.slice xb xm xd) qy (.slice ya yn yc) (.slice yb ym yd) x y) := hide ⟨T.b0.keep b5, T.b1.keep b5, K5, K6, R0.rs.keep b5, R1.rs.keep b5, RX, RY, T.bel.trans (b5.mono (Nat.le_trans (by omega) T.le)), Nat.le_trans (Nat.le_trans (by omega) T.le) b5.size⟩
  have HO := hide (And.intro ox oy)
  have OJ := hide (tog_ok join_ok ox oy)
  have OW := hide (tog_ok widen_ok ox oy)
  clear T R0 R1 ox oy K5 K6 RX RY b5
  generalize (Value.slice xa xn xc) = vx at *
  generalize (Value.slice xb xm xd) = sx at *
  generalize (Value.slice ya yn yc) = vy at *
  generalize (Value.slice yb ym yd) = sy at *
  go_upto_region 3 with fail
  have HS : Hid (∀ w', Below w5.heap.size w5 w' → (w'.cell? ⟨N, 0, none⟩ = some (.bool q0) ∧ w'.cell? ⟨N, 1, none⟩ = some (v0) ∧ w'.cell? ⟨N, 2, none⟩ = some (s0) ∧ w'.cell? ⟨(N + 1), 0, none⟩ = some (.bool q1) ∧ w'.cell? ⟨(N + 1), 1, none⟩ = some (v1) ∧ w'.cell? ⟨(N + 1), 2, none⟩ = some (s1) ∧ w'.cell? ⟨k5, 0, none⟩ = some (.bool qx) ∧ w'.cell? ⟨k5, 1, none⟩ = some (vx) ∧ w'.cell? ⟨k5, 2, none⟩ = some (sx) ∧ w'.cell? ⟨k6, 0, none⟩ = some (.bool qy) ∧ w'.cell? ⟨k6, 1, none⟩ = some (vy) ∧ w'.cell? ⟨k6, 2, none⟩ = some (sy))) := hide (fun w' h => by have t := HA.out.keep h; exact ⟨t.b2.c0, t.b2.c1, t.b2.c2, t.b3.c0, t.b3.c1, t.b3.c2, t.b5.c0, t.b5.c1, t.b5.c2, t.b6.c0, t.b6.c1, t.b6.c2⟩)
  refine wp_region_held_drew (S := fun w' => w'.cell? ⟨N, 0, none⟩ = some (.bool q0) ∧ w'.cell? ⟨N, 1, none⟩ = some (v0) ∧ w'.cell? ⟨N, 2, none⟩ = some (s0) ∧ w'.cell? ⟨(N + 1), 0, none⟩ = some (.bool q1) ∧ w'.cell? ⟨(N + 1), 1, none⟩ = some (v1) ∧ w'.cell? ⟨(N + 1), 2, none⟩ = some (s1) ∧ w'.cell? ⟨k5, 0, none⟩ = some (.bool qx) ∧ w'.cell? ⟨k5, 1, none⟩ = some (vx) ∧ w'.cell? ⟨k5, 2, none⟩ = some (sx) ∧ w'.cell? ⟨k6, 0, none⟩ = some (.bool qy) ∧ w'.cell? ⟨k6, 1, none⟩ = some (vy) ∧ w'.cell? ⟨k6, 2, none⟩ = some (sy)) (by kernel_rfl) (HS.out _ (Below.refl _ _).drew) (fun hH0 => ?_)
  obtain ⟨w0, hw0⟩ : ∃ w0, w0 = w5.drew := ⟨_, rfl⟩
  (try rw [← hw0] at hH0)
  rw [← hw0]
  have b0 : Hid (Below w5.heap.size w5 w0) := hw0 ▸ hide (Below.refl _ _).drew
  clear hw0
  refine wpAnyH_ready (rs := [0]) (by kernel_rfl) (by simp) ?_
  refine AllReadyH.cons (o := ({ dst := some 15, op := Op.call { callee := Callee.value (Operand.func 12), args := #[], argTypes := #[] }, type := 4, pos := _, after := _, guard := _ } : Oper)) rfl (fun K hK => ?_) AllReadyH.nil
  · go_simp
    go_at_call 12
    refine (told_any _).mono ?_
    rintro e w1 ⟨rfl, hb1⟩
    have b1 := hide (b0.out.trans (hb1.mono b0.out.size))
    refine hK.out _ _ (HS.out _ b1.out) (fun hH1 => ?_)
    clear hK K hb1
    refine wpAnyH_take (i := 1) (oi := ({ dst := some 16, op := Op.unOp UnOp.not 4 (Operand.tmp 15), type := 4, pos := _, after := _, guard := _ } : Oper)) (v := ?_) rfl (by kernel_rfl) (by kernel_rfl) (by kernel_rfl) (fun _ _ _ h => h) (Or.inl ⟨by rfl, ?_⟩) (by assumption) ?_
    rotate_left
    · (intro wz hSw; (try dsimp only at hSw); go_simp; try with_reducible rfl)
    simp only [Act.put, List.setIfInBounds_toArray, List.set_cons_zero, List.set_cons_succ]
    refine wpAnyH_take (i := 2) (oi := ({ dst := some 17, op := Op.move (Operand.tmp 16), type := 4, pos := _, after := _, guard := _ } : Oper)) (v := ?_) rfl (by kernel_rfl) (by kernel_rfl) (by kernel_rfl) (fun _ _ _ h => h) (Or.inl ⟨by rfl, ?_⟩) (by assumption) ?_
    rotate_left
    · (intro wz hSw; (try dsimp only at hSw); go_simp; try with_reducible rfl)
    simp only [Act.put, List.setIfInBounds_toArray, List.set_cons_zero, List.set_cons_succ]
    refine wpAnyH_take (i := 3) (oi := ({ dst := some 18, op := Op.load 29 (Operand.tmp 5), type := 29, pos := _, after := _, guard := _ } : Oper)) (v := ?_) rfl (by kernel_rfl) (by kernel_rfl) (by kernel_rfl) (fun _ _ _ h => h) (Or.inl ⟨by rfl, ?_⟩) (by assumption) ?_
    rotate_left
    · (intro wz hSw; (try dsimp only at hSw); go_simp; try with_reducible rfl)
    simp only [Act.put, List.setIfInBounds_toArray, List.set_cons_zero, List.set_cons_succ]
    refine wpAnyH_take (i := 4) (oi := ({ dst := some 19, op := Op.load 29 (Operand.tmp 6), type := 29, pos := _, after := _, guard := _ } : Oper)) (v := ?_) rfl (by kernel_rfl) (by kernel_rfl) (by kernel_rfl) (fun _ _ _ h => h) (Or.inl ⟨by rfl, ?_⟩) (by assumption) ?_
    rotate_left
    · (intro wz hSw; (try dsimp only at hSw); go_simp; try with_reducible rfl)
    simp only [Act.put, List.setIfInBounds_toArray, List.set_cons_zero, List.set_cons_succ]
    refine wpAnyH_take (i := 6) (oi := ({ dst := some 21, op := Op.load 25 (Operand.tmp 2), type := 25, pos := _, after := _, guard := _ } : Oper)) (v := ?_) rfl (by kernel_rfl) (by kernel_rfl) (by kernel_rfl) (fun _ _ _ h => h) (Or.inl ⟨by rfl, ?_⟩) (by assumption) ?_
    rotate_left
    · (intro wz hSw; (try dsimp only at hSw); go_simp; try with_reducible rfl)
    simp only [Act.put, List.setIfInBounds_toArray, List.set_cons_zero, List.set_cons_succ]
    refine wpAnyH_take (i := 7) (oi := ({ dst := some 22, op := Op.load 25 (Operand.tmp 3), type := 25, pos := _, after := _, guard := _ } : Oper)) (v := ?_) rfl (by kernel_rfl) (by kernel_rfl) (by kernel_rfl) (fun _ _ _ h => h) (Or.inl ⟨by rfl, ?_⟩) (by assumption) ?_
    rotate_left
    · (intro wz hSw; (try dsimp only at hSw); go_simp; try with_reducible rfl)
    simp only [Act.put, List.setIfInBounds_toArray, List.set_cons_zero, List.set_cons_succ]
    refine wpAnyH_ready (rs := [5]) (by kernel_rfl) (by simp) ?_
    refine AllReadyH.cons (o := ({ dst := some 20, op := Op.call { callee := Callee.value (Operand.func 14), args := #[Operand.tmp 18, Operand.tmp 19], argTypes := #[29, 29] }, type := 29, pos := _, after := _, guard := _ } : Oper)) rfl (fun K hK => ?_) AllReadyH.nil
    · go_simp
      go_at_call 14
      refine (joinJ9 (HA.out.keep b1.out).rx (HA.out.keep b1.out).ry HO.out.1 HO.out.2 (by omega) (by omega)).mono ?_
      rintro e w2 ⟨yRa, rfl, hb2, hR2⟩
      have Ra_2 := hide hR2
      clear hR2
      have b2 := hide (b1.out.trans (hb2.mono b1.out.size))
      refine hK.out _ _ (HS.out _ b2.out) (fun hH2 => ?_)
      clear hK K hb2
      refine wpAnyH_ready (rs := [8]) (by kernel_rfl) (by simp) ?_
      refine AllReadyH.cons (o := ({ dst := some 23, op := Op.call { callee := Callee.value (Operand.func 15), args := #[Operand.tmp 21, Operand.tmp 22], argTypes := #[25, 25] }, type := 25, pos := _, after := _, guard := _ } : Oper)) rfl (fun K hK => ?_) AllReadyH.nil
      · go_simp
        go_at_call 15
        refine (ref15_S (HA.out.keep b2.out).ra (HA.out.keep b2.out).rb HO.out.1 HO.out.2 (by omega) (by omega)).mono ?_
        rintro e w3 ⟨yRb, rfl, hb3, hR3⟩
        have Ra_3 := hide (Ra_2.out.keep hb3)
        have Rb_3 := hide hR3
        clear hR3
        have b3 := hide (b2.out.trans (hb3.mono b2.out.size))
        refine hK.out _ _ (HS.out _ b3.out) (fun hH3 => ?_)
        clear hK K hb3
        refine wpAnyH_ready (rs := [9]) (by kernel_rfl) (by simp) ?_
        refine AllReadyH.cons (o := ({ dst := some 24, op := Op.call { callee := Callee.value (Operand.func 13), args := #[Operand.tmp 20, Operand.tmp 23], argTypes := #[29, 25] }, type := 4, pos := _, after := _, guard := _ } : Oper)) rfl (fun K hK => ?_) AllReadyH.nil
        · go_simp
          go_at_call 13
          refine (same_V Ra_3.out Rb_3.out OJ.out (by omega)).mono ?_
          rintro e w4 ⟨rfl, hb4⟩
          have b4 := hide (b3.out.trans (hb4.mono b3.out.size))
          refine hK.out _ _ (HS.out _ b4.out) (fun hH4 => ?_)
          clear hK K hb4
          refine wpAnyH_take (i := 10) (oi := ({ dst := some 25, op := Op.unOp UnOp.not 4 (Operand.tmp 24), type := 4, pos := _, after := _, guard := _ } : Oper)) (v := ?_) rfl (by kernel_rfl) (by kernel_rfl) (by kernel_rfl) (fun _ _ _ h => h) (Or.inl ⟨by rfl, ?_⟩) (by assumption) ?_
          rotate_left
          · (intro wz hSw; (try dsimp only at hSw); go_simp; try with_reducible rfl)
          simp only [Act.put, List.setIfInBounds_toArray, List.set_cons_zero, List.set_cons_succ]
          refine wpAnyH_take (i := 11) (oi := ({ dst := some 26, op := Op.pick (Operand.tmp 17) (Operand.const (Value.bool true)) (Operand.tmp 25), type := 4, pos := _, after := _, guard := _ } : Oper)) (v := ?_) rfl (by kernel_rfl) (by kernel_rfl) (by kernel_rfl) (fun _ _ _ h => h) (Or.inl ⟨by rfl, ?_⟩) (by assumption) ?_
          rotate_left
          · (intro wz hSw; (try dsimp only at hSw); go_simp; try with_reducible rfl)
          simp only [Act.put, List.setIfInBounds_toArray, List.set_cons_zero, List.set_cons_succ]
          refine wpAnyH_take (i := 12) (oi := ({ dst := some 27, op := Op.move (Operand.tmp 26), type := 4, pos := _, after := _, guard := _ } : Oper)) (v := ?_) rfl (by kernel_rfl) (by kernel_rfl) (by kernel_rfl) (fun _ _ _ h => h) (Or.inl ⟨by rfl, ?_⟩) (by assumption) ?_
          rotate_left
          · (intro wz hSw; (try dsimp only at hSw); go_simp; try with_reducible rfl)
          simp only [Act.put, List.setIfInBounds_toArray, List.set_cons_zero, List.set_cons_succ]
          refine wpAnyH_take (i := 13) (oi := ({ dst := some 28, op := Op.load 29 (Operand.tmp 5), type := 29, pos := _, after := _, guard := _ } : Oper)) (v := ?_) rfl (by kernel_rfl) (by kernel_rfl) (by kernel_rfl) (fun _ _ _ h => h) (Or.inl ⟨by rfl, ?_⟩) (by assumption) ?_
          rotate_left
          · (intro wz hSw; (try dsimp only at hSw); go_simp; try with_reducible rfl)
          simp only [Act.put, List.setIfInBounds_toArray, List.set_cons_zero, List.set_cons_succ]
          refine wpAnyH_take (i := 14) (oi := ({ dst := some 29, op := Op.load 29 (Operand.tmp 6), type := 29, pos := _, after := _, guard := _ } : Oper)) (v := ?_) rfl (by kernel_rfl) (by kernel_rfl) (by kernel_rfl) (fun _ _ _ h => h) (Or.inl ⟨by rfl, ?_⟩) (by assumption) ?_
          rotate_left
          · (intro wz hSw; (try dsimp only at hSw); go_simp; try with_reducible rfl)
          simp only [Act.put, List.setIfInBounds_toArray, List.set_cons_zero, List.set_cons_succ]
          refine wpAnyH_take (i := 16) (oi := ({ dst := some 31, op := Op.load 25 (Operand.tmp 2), type := 25, pos := _, after := _, guard := _ } : Oper)) (v := ?_) rfl (by kernel_rfl) (by kernel_rfl) (by kernel_rfl) (fun _ _ _ h => h) (Or.inl ⟨by rfl, ?_⟩) (by assumption) ?_
          rotate_left
          · (intro wz hSw; (try dsimp only at hSw); go_simp; try with_reducible rfl)
          simp only [Act.put, List.setIfInBounds_toArray, List.set_cons_zero, List.set_cons_succ]
          refine wpAnyH_take (i := 17) (oi := ({ dst := some 32, op := Op.load 25 (Operand.tmp 3), type := 25, pos := _, after := _, guard := _ } : Oper)) (v := ?_) rfl (by kernel_rfl) (by kernel_rfl) (by kernel_rfl) (fun _ _ _ h => h) (Or.inl ⟨by rfl, ?_⟩) (by assumption) ?_
          rotate_left
          · (intro wz hSw; (try dsimp only at hSw); go_simp; try with_reducible rfl)
          simp only [Act.put, List.setIfInBounds_toArray, List.set_cons_zero, List.set_cons_succ]
          refine wpAnyH_ready (rs := [15]) (by kernel_rfl) (by simp) ?_
          refine AllReadyH.cons (o := ({ dst := some 30, op := Op.call { callee := Callee.value (Operand.func 16), args := #[Operand.tmp 28, Operand.tmp 29], argTypes := #[29, 29] }, type := 29, pos := _, after := _, guard := _ } : Oper)) rfl (fun K hK => ?_) AllReadyH.nil
          · go_simp
            go_at_call 16
            refine (widenJ9 (HA.out.keep b4.out).rx (HA.out.keep b4.out).ry HO.out.1 HO.out.2 (by omega) (by omega)).mono ?_
            rintro e w5 ⟨yRc, rfl, hb5, hR5⟩
            have Rc_5 := hide hR5
            clear hR5
            have b5 := hide (b4.out.trans (hb5.mono b4.out.size))
            refine hK.out _ _ (HS.out _ b5.out) (fun hH5 => ?_)
            clear hK K hb5
            refine wpAnyH_ready (rs := [18]) (by kernel_rfl) (by simp) ?_
            refine AllReadyH.cons (o := ({ dst := some 33, op := Op.call { callee := Callee.value (Operand.func 17), args := #[Operand.tmp 31, Operand.tmp 32], argTypes := #[25, 25] }, type := 25, pos := _, after := _, guard := _ } : Oper)) rfl (fun K hK => ?_) AllReadyH.nil
            · go_simp
              go_at_call 17
              refine (ref17_S (HA.out.keep b5.out).ra (HA.out.keep b5.out).rb HO.out.1 HO.out.2 (by omega) (by omega)).mono ?_
              rintro e w6 ⟨yRd, rfl, hb6, hR6⟩
              have Rc_6 := hide (Rc_5.out.keep hb6)
              have Rd_6 := hide hR6
              clear hR6
              have b6 := hide (b5.out.trans (hb6.mono b5.out.size))
              refine hK.out _ _ (HS.out _ b6.out) (fun hH6 => ?_)
              clear hK K hb6
              refine wpAnyH_ready (rs := [19]) (by kernel_rfl) (by simp) ?_
              refine AllReadyH.cons (o := ({ dst := some 34, op := Op.call { callee := Callee.value (Operand.func 13), args := #[Operand.tmp 30, Operand.tmp 33], argTypes := #[29, 25] }, type := 4, pos := _, after := _, guard := _ } : Oper)) rfl (fun K hK => ?_) AllReadyH.nil
              · go_simp
                go_at_call 13
                refine (same_V Rc_6.out Rd_6.out OW.out (by omega)).mono ?_
                rintro e w7 ⟨rfl, hb7⟩
                have b7 := hide (b6.out.trans (hb7.mono b6.out.size))
                refine hK.out _ _ (HS.out _ b7.out) (fun hH7 => ?_)
                clear hK K hb7
                refine wpAnyH_take (i := 20) (oi := ({ dst := some 35, op := Op.unOp UnOp.not 4 (Operand.tmp 34), type := 4, pos := _, after := _, guard := _ } : Oper)) (v := ?_) rfl (by kernel_rfl) (by kernel_rfl) (by kernel_rfl) (fun _ _ _ h => h) (Or.inl ⟨by rfl, ?_⟩) (by assumption) ?_
                rotate_left
                · (intro wz hSw; (try dsimp only at hSw); go_simp; try with_reducible rfl)
                simp only [Act.put, List.setIfInBounds_toArray, List.set_cons_zero, List.set_cons_succ]
                refine wpAnyH_take (i := 21) (oi := ({ dst := some 36, op := Op.pick (Operand.tmp 27) (Operand.const (Value.bool true)) (Operand.tmp 35), type := 4, pos := _, after := _, guard := _ } : Oper)) (v := ?_) rfl (by kernel_rfl) (by kernel_rfl) (by kernel_rfl) (fun _ _ _ h => h) (Or.inl ⟨by rfl, ?_⟩) (by assumption) ?_
                rotate_left
                · (intro wz hSw; (try dsimp only at hSw); go_simp; try with_reducible rfl)
                simp only [Act.put, List.setIfInBounds_toArray, List.set_cons_zero, List.set_cons_succ]
                refine wpAnyH_done (by kernel_rfl) ?_ _
                have HB := hide (HA.out.keep b7.out)
                clear HS b7 hH7 HA
                obtain ⟨wb, hwb⟩ : ∃ z9, z9 = w7 := ⟨_, rfl⟩
                rw [← hwb] at HB ⊢
                clear hwb
                go_upto_region 5 with fail
                have HA := HB
                clear HB
                have HS : Hid (∀ w', Below wb.heap.size wb w' → (w'.cell? ⟨N, 0, none⟩ = some (.bool q0) ∧ w'.cell? ⟨N, 1, none⟩ = some (v0) ∧ w'.cell? ⟨N, 2, none⟩ = some (s0) ∧ w'.cell? ⟨(N + 1), 0, none⟩ = some (.bool q1) ∧ w'.cell? ⟨(N + 1), 1, none⟩ = some (v1) ∧ w'.cell? ⟨(N + 1), 2, none⟩ = some (s1) ∧ w'.cell? ⟨k5, 0, none⟩ = some (.bool qx) ∧ w'.cell? ⟨k5, 1, none⟩ = some (vx) ∧ w'.cell? ⟨k5, 2, none⟩ = some (sx) ∧ w'.cell? ⟨k6, 0, none⟩ = some (.bool qy) ∧ w'.cell? ⟨k6, 1, none⟩ = some (vy) ∧ w'.cell? ⟨k6, 2, none⟩ = some (sy))) := hide (fun w' h => by have t := HA.out.keep h; exact ⟨t.b2.c0, t.b2.c1, t.b2.c2, t.b3.c0, t.b3.c1, t.b3.c2, t.b5.c0, t.b5.c1, t.b5.c2, t.b6.c0, t.b6.c1, t.b6.c2⟩)
                have cW1 := fun w' (h : He N w w' N (N + 1) k5 k6 q0 v0 s0 q1 v1 s1 qx vx sx qy vy sy x y) => within_S h.rx h.ry HO.out.1 HO.out.2 (by omega)
                have cW2 := fun w' (h : He N w w' N (N + 1) k5 k6 q0 v0 s0 q1 v1 s1 qx vx sx qy vy sy x y) => withinr_S h.ra h.rb HO.out.1 HO.out.2 (by omega) (by omega)
                generalize withinVS x y = bw at cW1 cW2
                refine wp_region_held_drew (S := fun w' => w'.cell? ⟨N, 0, none⟩ = some (.bool q0) ∧ w'.cell? ⟨N, 1, none⟩ = some (v0) ∧ w'.cell? ⟨N, 2, none⟩ = some (s0) ∧ w'.cell? ⟨(N + 1), 0, none⟩ = some (.bool q1) ∧ w'.cell? ⟨(N + 1), 1, none⟩ = some (v1) ∧ w'.cell? ⟨(N + 1), 2, none⟩ = some (s1) ∧ w'.cell? ⟨k5, 0, none⟩ = some (.bool qx) ∧ w'.cell? ⟨k5, 1, none⟩ = some (vx) ∧ w'.cell? ⟨k5, 2, none⟩ = some (sx) ∧ w'.cell? ⟨k6, 0, none⟩ = some (.bool qy) ∧ w'.cell? ⟨k6, 1, none⟩ = some (vy) ∧ w'.cell? ⟨k6, 2, none⟩ = some (sy)) (by kernel_rfl) (HS.out _ (Below.refl _ _).drew) (fun hH0 => ?_)
                obtain ⟨w0, hw0⟩ : ∃ w0, w0 = wb.drew := ⟨_, rfl⟩
                (try rw [← hw0] at hH0)
                rw [← hw0]
                have b0 : Hid (Below wb.heap.size wb w0) := hw0 ▸ hide (Below.refl _ _).drew
                clear hw0
                refine wpAnyH_take (i := 0) (oi := ({ dst := some 37, op := Op.load 29 (Operand.tmp 5), type := 29, pos := _, after := _, guard := _ } : Oper)) (v := ?_) rfl (by kernel_rfl) (by kernel_rfl) (by kernel_rfl) (fun _ _ _ h => h) (Or.inl ⟨by rfl, ?_⟩) (by assumption) ?_
                rotate_left
                · (intro wz hSw; (try dsimp only at hSw); go_simp; try with_reducible rfl)
                simp only [Act.put, List.setIfInBounds_toArray, List.set_cons_zero, List.set_cons_succ]
                refine wpAnyH_take (i := 1) (oi := ({ dst := some 38, op := Op.load 29 (Operand.tmp 6), type := 29, pos := _, after := _, guard := _ } : Oper)) (v := ?_) rfl (by kernel_rfl) (by kernel_rfl) (by kernel_rfl) (fun _ _ _ h => h) (Or.inl ⟨by rfl, ?_⟩) (by assumption) ?_
                rotate_left
                · (intro wz hSw; (try dsimp only at hSw); go_simp; try with_reducible rfl)
                simp only [Act.put, List.setIfInBounds_toArray, List.set_cons_zero, List.set_cons_succ]
                refine wpAnyH_take (i := 3) (oi := ({ dst := some 40, op := Op.load 25 (Operand.tmp 2), type := 25, pos := _, after := _, guard := _ } : Oper)) (v := ?_) rfl (by kernel_rfl) (by kernel_rfl) (by kernel_rfl) (fun _ _ _ h => h) (Or.inl ⟨by rfl, ?_⟩) (by assumption) ?_
                rotate_left
                · (intro wz hSw; (try dsimp only at hSw); go_simp; try with_reducible rfl)
                simp only [Act.put, List.setIfInBounds_toArray, List.set_cons_zero, List.set_cons_succ]
                refine wpAnyH_take (i := 4) (oi := ({ dst := some 41, op := Op.load 25 (Operand.tmp 3), type := 25, pos := _, after := _, guard := _ } : Oper)) (v := ?_) rfl (by kernel_rfl) (by kernel_rfl) (by kernel_rfl) (fun _ _ _ h => h) (Or.inl ⟨by rfl, ?_⟩) (by assumption) ?_
                rotate_left
                · (intro wz hSw; (try dsimp only at hSw); go_simp; try with_reducible rfl)
                simp only [Act.put, List.setIfInBounds_toArray, List.set_cons_zero, List.set_cons_succ]
                refine wpAnyH_ready (rs := [2]) (by kernel_rfl) (by simp) ?_
                refine AllReadyH.cons (o := ({ dst := some 39, op := Op.call { callee := Callee.value (Operand.func 18), args := #[Operand.tmp 37, Operand.tmp 38], argTypes := #[29, 29] }, type := 4, pos := _, after := _, guard := _ } : Oper)) rfl (fun K hK => ?_) AllReadyH.nil
                · go_simp
                  go_at_call 18
                  refine (cW1 _ (HA.out.keep b0.out)).mono ?_
                  rintro e w1 ⟨rfl, hb1⟩
                  have b1 := hide (b0.out.trans (hb1.mono b0.out.size))
                  refine hK.out _ _ (HS.out _ b1.out) (fun hH1 => ?_)
                  clear hK K hb1
                  refine wpAnyH_ready (rs := [5]) (by kernel_rfl) (by simp) ?_
                  refine AllReadyH.cons (o := ({ dst := some 42, op := Op.call { callee := Callee.value (Operand.func 19), args := #[Operand.tmp 40, Operand.tmp 41], argTypes := #[25, 25] }, type := 4, pos := _, after := _, guard := _ } : Oper)) rfl (fun K hK => ?_) AllReadyH.nil
                  · go_simp
                    go_at_call 19
                    refine (cW2 _ (HA.out.keep b1.out)).mono ?_
                    rintro e w2 ⟨rfl, hb2⟩
                    have b2 := hide (b1.out.trans (hb2.mono b1.out.size))
                    refine hK.out _ _ (HS.out _ b2.out) (fun hH2 => ?_)
                    clear hK K hb2
                    refine wpAnyH_take (i := 6) (oi := ({ dst := some 43, op := Op.binOp BinOp.eql 4 (Operand.tmp 39) (Operand.tmp 42) 4, type := 4, pos := _, after := _, guard := _ } : Oper)) (v := ?_) rfl (by kernel_rfl) (by kernel_rfl) (by kernel_rfl) (fun _ _ _ h => h) (Or.inl ⟨by rfl, ?_⟩) (by assumption) ?_
                    rotate_left
                    · (intro wz hSw; (try dsimp only at hSw); go_simp; try with_reducible rfl)
                    simp only [Act.put, List.setIfInBounds_toArray, List.set_cons_zero, List.set_cons_succ]
                    refine wpAnyH_take (i := 7) (oi := ({ dst := some 44, op := Op.move (Operand.tmp 43), type := 4, pos := _, after := _, guard := _ } : Oper)) (v := ?_) rfl (by kernel_rfl) (by kernel_rfl) (by kernel_rfl) (fun _ _ _ h => h) (Or.inl ⟨by rfl, ?_⟩) (by assumption) ?_
                    rotate_left
                    · (intro wz hSw; (try dsimp only at hSw); go_simp; try with_reducible rfl)
                    simp only [Act.put, List.setIfInBounds_toArray, List.set_cons_zero, List.set_cons_succ]
                    refine wpAnyH_take (i := 8) (oi := ({ dst := some 45, op := Op.load 29 (Operand.tmp 5), type := 29, pos := _, after := _, guard := _ } : Oper)) (v := ?_) rfl (by kernel_rfl) (by kernel_rfl) (by kernel_rfl) (fun _ _ _ h => h) (Or.inl ⟨by rfl, ?_⟩) (by assumption) ?_
                    rotate_left
                    · (intro wz hSw; (try dsimp only at hSw); go_simp; try with_reducible rfl)
                    simp only [Act.put, List.setIfInBounds_toArray, List.set_cons_zero, List.set_cons_succ]
                    refine wpAnyH_take (i := 9) (oi := ({ dst := some 46, op := Op.load 29 (Operand.tmp 6), type := 29, pos := _, after := _, guard := _ } : Oper)) (v := ?_) rfl (by kernel_rfl) (by kernel_rfl) (by kernel_rfl) (fun _ _ _ h => h) (Or.inl ⟨by rfl, ?_⟩) (by assumption) ?_
                    rotate_left
                    · (intro wz hSw; (try dsimp only at hSw); go_simp; try with_reducible rfl)
                    simp only [Act.put, List.setIfInBounds_toArray, List.set_cons_zero, List.set_cons_succ]
                    refine wpAnyH_take (i := 11) (oi := ({ dst := some 48, op := Op.load 25 (Operand.tmp 2), type := 25, pos := _, after := _, guard := _ } : Oper)) (v := ?_) rfl (by kernel_rfl) (by kernel_rfl) (by kernel_rfl) (fun _ _ _ h => h) (Or.inl ⟨by rfl, ?_⟩) (by assumption) ?_
                    rotate_left
                    · (intro wz hSw; (try dsimp only at hSw); go_simp; try with_reducible rfl)
                    simp only [Act.put, List.setIfInBounds_toArray, List.set_cons_zero, List.set_cons_succ]
                    refine wpAnyH_take (i := 12) (oi := ({ dst := some 49, op := Op.load 25 (Operand.tmp 3), type := 25, pos := _, after := _, guard := _ } : Oper)) (v := ?_) rfl (by kernel_rfl) (by kernel_rfl) (by kernel_rfl) (fun _ _ _ h => h) (Or.inl ⟨by rfl, ?_⟩) (by assumption) ?_
                    rotate_left
                    · (intro wz hSw; (try dsimp only at hSw); go_simp; try with_reducible rfl)
                    simp only [Act.put, List.setIfInBounds_toArray, List.set_cons_zero, List.set_cons_succ]
                    refine wpAnyH_ready (rs := [10]) (by kernel_rfl) (by simp) ?_
                    refine AllReadyH.cons (o := ({ dst := some 47, op := Op.call { callee := Callee.value (Operand.func 20), args := #[Operand.tmp 45, Operand.tmp 46], argTypes := #[29, 29] }, type := 4, pos := _, after := _, guard := _ } : Oper)) rfl (fun K hK => ?_) AllReadyH.nil
                    · go_simp
                      go_at_call 20
                      refine (equal_V (HA.out.keep b2.out).rx (HA.out.keep b2.out).ry HO.out.1 HO.out.2 (by omega) (by omega)).mono ?_
                      rintro e w3 ⟨bv1, rfl, hb3, hi1⟩
                      have HI1 := hide hi1
                      clear hi1
                      have b3 := hide (b2.out.trans (hb3.mono b2.out.size))
                      refine hK.out _ _ (HS.out _ b3.out) (fun hH3 => ?_)
                      clear hK K hb3
                      refine wpAnyH_ready (rs := [13]) (by kernel_rfl) (by simp) ?_
                      refine AllReadyH.cons (o := ({ dst := some 50, op := Op.call { callee := Callee.value (Operand.func 21), args := #[Operand.tmp 48, Operand.tmp 49], argTypes := #[25, 25] }, type := 4, pos := _, after := _, guard := _ } : Oper)) rfl (fun K hK => ?_) AllReadyH.nil
                      · go_simp
                        go_at_call 21
                        refine (equalr_V (HA.out.keep b3.out).ra (HA.out.keep b3.out).rb HO.out.1 HO.out.2 (by omega) (by omega)).mono ?_
                        rintro e w4 ⟨bv2, rfl, hb4, hi2⟩
                        obtain rfl : bv1 = bv2 := Bool.eq_iff_iff.2 (HI1.out.trans hi2.symm)
                        clear HI1 hi2
                        have b4 := hide (b3.out.trans (hb4.mono b3.out.size))
                        refine hK.out _ _ (HS.out _ b4.out) (fun hH4 => ?_)
                        clear hK K hb4
                        refine wpAnyH_take (i := 14) (oi := ({ dst := some 51, op := Op.binOp BinOp.eql 4 (Operand.tmp 47) (Operand.tmp 50) 4, type := 4, pos := _, after := _, guard := _ } : Oper)) (v := ?_) rfl (by kernel_rfl) (by kernel_rfl) (by kernel_rfl) (fun _ _ _ h => h) (Or.inl ⟨by rfl, ?_⟩) (by assumption) ?_
                        rotate_left
                        · (intro wz hSw; (try dsimp only at hSw); go_simp; try with_reducible rfl)
                        simp only [Act.put, List.setIfInBounds_toArray, List.set_cons_zero, List.set_cons_succ]
                        refine wpAnyH_take (i := 15) (oi := ({ dst := some 52, op := Op.pick (Operand.tmp 44) (Operand.tmp 51) (Operand.const (Value.bool false)), type := 4, pos := _, after := _, guard := _ } : Oper)) (v := ?_) rfl (by kernel_rfl) (by kernel_rfl) (by kernel_rfl) (fun _ _ _ h => h) (Or.inl ⟨by rfl, ?_⟩) (by assumption) ?_
                        rotate_left
                        · (intro wz hSw; (try dsimp only at hSw); go_simp; try with_reducible rfl)
                        simp only [Act.put, List.setIfInBounds_toArray, List.set_cons_zero, List.set_cons_succ]
                        refine wpAnyH_take (i := 16) (oi := ({ dst := some 53, op := Op.move (Operand.tmp 52), type := 4, pos := _, after := _, guard := _ } : Oper)) (v := ?_) rfl (by kernel_rfl) (by kernel_rfl) (by kernel_rfl) (fun _ _ _ h => h) (Or.inl ⟨by rfl, ?_⟩) (by assumption) ?_
                        rotate_left
                        · (intro wz hSw; (try dsimp only at hSw); go_simp; try with_reducible rfl)
                        simp only [Act.put, List.setIfInBounds_toArray, List.set_cons_zero, List.set_cons_succ]
                        refine wpAnyH_take (i := 17) (oi := ({ dst := some 54, op := Op.load 29 (Operand.tmp 5), type := 29, pos := _, after := _, guard := _ } : Oper)) (v := ?_) rfl (by kernel_rfl) (by kernel_rfl) (by kernel_rfl) (fun _ _ _ h => h) (Or.inl ⟨by rfl, ?_⟩) (by assumption) ?_
                        rotate_left
                        · (intro wz hSw; (try dsimp only at hSw); go_simp; try with_reducible rfl)
                        simp only [Act.put, List.setIfInBounds_toArray, List.set_cons_zero, List.set_cons_succ]
                        refine wpAnyH_take (i := 18) (oi := ({ dst := some 55, op := Op.load 29 (Operand.tmp 5), type := 29, pos := _, after := _, guard := _ } : Oper)) (v := ?_) rfl (by kernel_rfl) (by kernel_rfl) (by kernel_rfl) (fun _ _ _ h => h) (Or.inl ⟨by rfl, ?_⟩) (by assumption) ?_
                        rotate_left
                        · (intro wz hSw; (try dsimp only at hSw); go_simp; try with_reducible rfl)
                        simp only [Act.put, List.setIfInBounds_toArray, List.set_cons_zero, List.set_cons_succ]
                        refine wpAnyH_ready (rs := [19]) (by kernel_rfl) (by simp) ?_
                        refine AllReadyH.cons (o := ({ dst := some 56, op := Op.call { callee := Callee.value (Operand.func 22), args := #[Operand.tmp 55], argTypes := #[29] }, type := 29, pos := _, after := _, guard := _ } : Oper)) rfl (fun K hK => ?_) AllReadyH.nil
                        · go_simp
                          go_at_call 22
                          refine (copyJ9 (HA.out.keep b4.out).rx HO.out.1 (by omega)).mono ?_
                          rintro e w5 ⟨yRc, rfl, hb5, hR5⟩
                          have Rc_5 := hide hR5
                          clear hR5
                          have b5 := hide (b4.out.trans (hb5.mono b4.out.size))
                          refine hK.out _ _ (HS.out _ b5.out) (fun hH5 => ?_)
                          clear hK K hb5
                          refine wpAnyH_ready (rs := [20]) (by kernel_rfl) (by simp) ?_
                          refine AllReadyH.cons (o := ({ dst := some 57, op := Op.call { callee := Callee.value (Operand.func 20), args := #[Operand.tmp 54, Operand.tmp 56], argTypes := #[29, 29] }, type := 4, pos := _, after := _, guard := _ } : Oper)) rfl (fun K hK => ?_) AllReadyH.nil
                          · go_simp
                            go_at_call 20
                            refine (equal_same (HA.out.keep b5.out).rx Rc_5.out HO.out.1 (by omega)).mono ?_
                            rintro e w6 ⟨rfl, hb6⟩
                            have b6 := hide (b5.out.trans (hb6.mono b5.out.size))
                            refine hK.out _ _ (HS.out _ b6.out) (fun hH6 => ?_)
                            clear hK K hb6
                            refine wpAnyH_take (i := 21) (oi := ({ dst := some 58, op := Op.pick (Operand.tmp 53) (Operand.tmp 57) (Operand.const (Value.bool false)), type := 4, pos := _, after := _, guard := _ } : Oper)) (v := ?_) rfl (by kernel_rfl) (by kernel_rfl) (by kernel_rfl) (fun _ _ _ h => h) (Or.inl ⟨by rfl, ?_⟩) (by assumption) ?_
                            rotate_left
                            · (intro wz hSw; (try dsimp only at hSw); go_simp; try with_reducible rfl)
                            simp only [Act.put, List.setIfInBounds_toArray, List.set_cons_zero, List.set_cons_succ]
                            refine wpAnyH_take (i := 22) (oi := ({ dst := some 59, op := Op.move (Operand.tmp 58), type := 4, pos := _, after := _, guard := _ } : Oper)) (v := ?_) rfl (by kernel_rfl) (by kernel_rfl) (by kernel_rfl) (fun _ _ _ h => h) (Or.inl ⟨by rfl, ?_⟩) (by assumption) ?_
                            rotate_left
                            · (intro wz hSw; (try dsimp only at hSw); go_simp; try with_reducible rfl)
                            simp only [Act.put, List.setIfInBounds_toArray, List.set_cons_zero, List.set_cons_succ]
                            refine wpAnyH_take (i := 23) (oi := ({ dst := some 60, op := Op.load 29 (Operand.tmp 5), type := 29, pos := _, after := _, guard := _ } : Oper)) (v := ?_) rfl (by kernel_rfl) (by kernel_rfl) (by kernel_rfl) (fun _ _ _ h => h) (Or.inl ⟨by rfl, ?_⟩) (by assumption) ?_
                            rotate_left
                            · (intro wz hSw; (try dsimp only at hSw); go_simp; try with_reducible rfl)
                            simp only [Act.put, List.setIfInBounds_toArray, List.set_cons_zero, List.set_cons_succ]
                            refine wpAnyH_take (i := 24) (oi := ({ dst := some 61, op := Op.load 25 (Operand.tmp 2), type := 25, pos := _, after := _, guard := _ } : Oper)) (v := ?_) rfl (by kernel_rfl) (by kernel_rfl) (by kernel_rfl) (fun _ _ _ h => h) (Or.inl ⟨by rfl, ?_⟩) (by assumption) ?_
                            rotate_left
                            · (intro wz hSw; (try dsimp only at hSw); go_simp; try with_reducible rfl)
                            simp only [Act.put, List.setIfInBounds_toArray, List.set_cons_zero, List.set_cons_succ]
                            refine wpAnyH_ready (rs := [25]) (by kernel_rfl) (by simp) ?_
                            refine AllReadyH.cons (o := ({ dst := some 62, op := Op.call { callee := Callee.value (Operand.func 13), args := #[Operand.tmp 60, Operand.tmp 61], argTypes := #[29, 25] }, type := 4, pos := _, after := _, guard := _ } : Oper)) rfl (fun K hK => ?_) AllReadyH.nil
                            · go_simp
                              go_at_call 13
                              refine (same_V (HA.out.keep b6.out).rx (HA.out.keep b6.out).ra HO.out.1 (by omega)).mono ?_
                              rintro e w7 ⟨rfl, hb7⟩
                              have b7 := hide (b6.out.trans (hb7.mono b6.out.size))
                              refine hK.out _ _ (HS.out _ b7.out) (fun hH7 => ?_)
                              clear hK K hb7
                              refine wpAnyH_take (i := 26) (oi := ({ dst := some 63, op := Op.pick (Operand.tmp 59) (Operand.tmp 62) (Operand.const (Value.bool false)), type := 4, pos := _, after := _, guard := _ } : Oper)) (v := ?_) rfl (by kernel_rfl) (by kernel_rfl) (by kernel_rfl) (fun _ _ _ h => h) (Or.inl ⟨by rfl, ?_⟩) (by assumption) ?_
                              rotate_left
                              · (intro wz hSw; (try dsimp only at hSw); go_simp; try with_reducible rfl)
                              simp only [Act.put, List.setIfInBounds_toArray, List.set_cons_zero, List.set_cons_succ]
                              refine wpAnyH_take (i := 27) (oi := ({ dst := some 64, op := Op.move (Operand.tmp 63), type := 4, pos := _, after := _, guard := _ } : Oper)) (v := ?_) rfl (by kernel_rfl) (by kernel_rfl) (by kernel_rfl) (fun _ _ _ h => h) (Or.inl ⟨by rfl, ?_⟩) (by assumption) ?_
                              rotate_left
                              · (intro wz hSw; (try dsimp only at hSw); go_simp; try with_reducible rfl)
                              simp only [Act.put, List.setIfInBounds_toArray, List.set_cons_zero, List.set_cons_succ]
                              refine wpAnyH_take (i := 28) (oi := ({ dst := some 65, op := Op.load 29 (Operand.tmp 6), type := 29, pos := _, after := _, guard := _ } : Oper)) (v := ?_) rfl (by kernel_rfl) (by kernel_rfl) (by kernel_rfl) (fun _ _ _ h => h) (Or.inl ⟨by rfl, ?_⟩) (by assumption) ?_
                              rotate_left
                              · (intro wz hSw; (try dsimp only at hSw); go_simp; try with_reducible rfl)
                              simp only [Act.put, List.setIfInBounds_toArray, List.set_cons_zero, List.set_cons_succ]
                              refine wpAnyH_take (i := 29) (oi := ({ dst := some 66, op := Op.load 25 (Operand.tmp 3), type := 25, pos := _, after := _, guard := _ } : Oper)) (v := ?_) rfl (by kernel_rfl) (by kernel_rfl) (by kernel_rfl) (fun _ _ _ h => h) (Or.inl ⟨by rfl, ?_⟩) (by assumption) ?_
                              rotate_left
                              · (intro wz hSw; (try dsimp only at hSw); go_simp; try with_reducible rfl)
                              simp only [Act.put, List.setIfInBounds_toArray, List.set_cons_zero, List.set_cons_succ]
                              refine wpAnyH_ready (rs := [30]) (by kernel_rfl) (by simp) ?_
                              refine AllReadyH.cons (o := ({ dst := some 67, op := Op.call { callee := Callee.value (Operand.func 13), args := #[Operand.tmp 65, Operand.tmp 66], argTypes := #[29, 25] }, type := 4, pos := _, after := _, guard := _ } : Oper)) rfl (fun K hK => ?_) AllReadyH.nil
                              · go_simp
                                go_at_call 13
                                refine (same_V (HA.out.keep b7.out).ry (HA.out.keep b7.out).rb HO.out.2 (by omega)).mono ?_
                                rintro e w8 ⟨rfl, hb8⟩
                                have b8 := hide (b7.out.trans (hb8.mono b7.out.size))
                                refine hK.out _ _ (HS.out _ b8.out) (fun hH8 => ?_)
                                clear hK K hb8
                                refine wpAnyH_take (i := 31) (oi := ({ dst := some 68, op := Op.pick (Operand.tmp 64) (Operand.tmp 67) (Operand.const (Value.bool false)), type := 4, pos := _, after := _, guard := _ } : Oper)) (v := ?_) rfl (by kernel_rfl) (by kernel_rfl) (by kernel_rfl) (fun _ _ _ h => h) (Or.inl ⟨by rfl, ?_⟩) (by assumption) ?_
                                rotate_left
                                · (intro wz hSw; (try dsimp only at hSw); go_simp; try with_reducible rfl)
                                simp only [Act.put, List.setIfInBounds_toArray, List.set_cons_zero, List.set_cons_succ]
                                refine wpAnyH_take (i := 32) (oi := ({ dst := some 4, op := Op.assign (Operand.tmp 68), type := 4, pos := _, after := _, guard := _ } : Oper)) (v := ?_) rfl (by kernel_rfl) (by kernel_rfl) (by kernel_rfl) (fun _ _ _ h => h) (Or.inl ⟨by rfl, ?_⟩) (by assumption) ?_
                                rotate_left
                                · (intro wz hSw; (try dsimp only at hSw); go_simp; try with_reducible rfl)
                                simp only [Act.put, List.setIfInBounds_toArray, List.set_cons_zero, List.set_cons_succ]
                                refine wpAnyH_done (by kernel_rfl) ?_ _
                                have HE := hide (HA.out.keep b8.out)
                                clear HS b8 hH8 HA
                                go_wp2
                                go_ret
                                exact ⟨by simp, HN.out ▸ HE.out.bel⟩
end Go.Proofs.Ytmhicllhjiglkaa
