import Derived.Test.YtmhicllhjiglkaaG14
import Derived.Test.YtmhicllhjiglkaaG09
import Derived.Test.YtmhicllhjiglkaaG07
import Derived.Test.YtmhicllhjiglkaaG11
import Derived.Deep.RegionHeld3
namespace Go.Proofs.Ytmhicllhjiglkaa
open Go.RowKit
abbrev a3 (X0 X1 X2 X13 X14 X15 X16 X17 X18 X19 X20 X21 X22 X23 X24 X25 X26 X27 X28 X29 : Value) (p q k5 k7 : Nat) (z1 z2 : Int) (y10 y11 y30 y31 y32 y33 y34 y35 y36 : Value) : Act := { tmps := #[X0, X1, X2, .pointer (some ⟨p, 0, none⟩), .pointer (some ⟨q, 0, none⟩), .pointer (some ⟨k5, 0, none⟩), .bool false, .pointer (some ⟨k7, 0, none⟩), .int .i64 z1, .int .i64 z2, y10, y11, undef, X13, X14, X15, X16, X17, X18, X19, X20, X21, X22, X23, X24, X25, X26, X27, X28, X29, y30, y31, y32, y33, y34, y35, y36, undef, undef, undef, undef, undef, undef, undef, undef, undef, undef, undef, undef, undef, undef, undef, undef, undef, undef, undef, undef, undef, undef, undef, undef, undef, undef, undef, undef, undef, undef, undef, undef, undef, undef, undef, undef, undef, undef, undef, undef, undef, undef, undef, undef, undef, undef, undef, undef, undef, undef, undef, undef, undef, undef, undef, undef, undef, undef, undef, undef, undef, undef, undef, undef, undef, undef, undef, undef, undef, undef, undef, undef, undef, undef, undef, undef, undef, undef, undef, undef, undef, undef, undef, undef, undef, undef, undef, undef, undef, undef, undef, undef, undef, undef, undef, undef, undef, undef, undef, undef, undef, undef, undef, undef, undef, undef, undef, undef, undef], defers := [] }
abbrev r3ops : Array Oper := #[{ dst := some 30, op := Op.load 25 (Operand.tmp 3), type := 25, pos := "law.go:106", after := #[], guard := none }, { dst := some 31, op := Op.call { callee := Callee.value (Operand.func 11), args := #[Operand.tmp 30], argTypes := #[25] }, type := 29, pos := "law.go:106", after := #[{ on := 0, ground := Ground.data }], guard := none }, { dst := some 32, op := Op.load 25 (Operand.tmp 3), type := 25, pos := "law.go:106", after := #[], guard := none }, { dst := some 33, op := Op.call { callee := Callee.value (Operand.func 11), args := #[Operand.tmp 32], argTypes := #[25] }, type := 29, pos := "law.go:106", after := #[{ on := 2, ground := Ground.data }, { on := 1, ground := Ground.chain }], guard := none }, { dst := some 34, op := Op.load 25 (Operand.tmp 4), type := 25, pos := "law.go:106", after := #[], guard := none }, { dst := some 35, op := Op.call { callee := Callee.value (Operand.func 11), args := #[Operand.tmp 34], argTypes := #[25] }, type := 29, pos := "law.go:106", after := #[{ on := 4, ground := Ground.data }, { on := 3, ground := Ground.chain }], guard := none }, { dst := some 36, op := Op.call { callee := Callee.value (Operand.func 14), args := #[Operand.tmp 33, Operand.tmp 35], argTypes := #[29, 29] }, type := 29, pos := "law.go:106", after := #[{ on := 3, ground := Ground.data }, { on := 5, ground := Ground.data }, { on := 5, ground := Ground.chain }], guard := none }, { dst := some 10, op := Op.alloc 29, type := 0, pos := "law.go:106", after := #[], guard := none }, { dst := some 11, op := Op.alloc 29, type := 0, pos := "law.go:106", after := #[], guard := none }, { dst := none, op := Op.store 29 (Operand.tmp 10) (Operand.tmp 31), type := 0, pos := "law.go:106", after := #[{ on := 7, ground := Ground.data }, { on := 1, ground := Ground.data }, { on := 6, ground := Ground.chain }, { on := 0, ground := Ground.phase }, { on := 1, ground := Ground.phase }, { on := 2, ground := Ground.textOnly Departure.lateStores }, { on := 3, ground := Ground.textOnly Departure.lateStoresUnsure }, { on := 4, ground := Ground.textOnly Departure.lateStores }, { on := 5, ground := Ground.textOnly Departure.lateStoresUnsure }, { on := 6, ground := Ground.textOnly Departure.lateStoresUnsure }, { on := 7, ground := Ground.phase }, { on := 8, ground := Ground.phase }], guard := none }, { dst := none, op := Op.store 29 (Operand.tmp 11) (Operand.tmp 36), type := 0, pos := "law.go:106", after := #[{ on := 8, ground := Ground.data }, { on := 6, ground := Ground.data }, { on := 9, ground := Ground.chain }, { on := 0, ground := Ground.phase }, { on := 1, ground := Ground.phase }, { on := 2, ground := Ground.phase }, { on := 3, ground := Ground.phase }, { on := 4, ground := Ground.phase }, { on := 5, ground := Ground.phase }, { on := 6, ground := Ground.phase }, { on := 7, ground := Ground.phase }, { on := 8, ground := Ground.phase }, { on := 9, ground := Ground.phase }], guard := none }]
theorem to_R {w : World} {v : Value} {x : VS} {n : Nat} (h : Rs w v x.raw) (k : VOk n x) (hn : n ≤ 5000) : Calls Try.prog 11 #[v] w fun e w' => ∃ v', e = .returned v' ∧ Below w.heap.size w w' ∧ Rn w' w.heap.size v' x.raw := by
  obtain ⟨a, c, b, d, rfl, h1, h2, -⟩ := h
  have i3 := k.le
  have i1 := k.len
  refine (to_S a b c d x.raw.r x.raw.vs x.raw.ss w h1 h2 (by unfold VS.raw; dsimp only; rw [List.length_map]; omega) (by unfold VS.raw; dsimp only; omega) (k.inner hn)).mono ?_
  rintro e w' ⟨v', rfl, hR, hB⟩
  exact ⟨v', rfl, hB, hR⟩
theorem joinN9 {w : World} {v1 v2 : Value} {x y : VS} {n m : Nat} (h1 : Rs w v1 x.raw) (h2 : Rs w v2 y.raw) (k1 : VOk n x) (k2 : VOk m y) (hn : n ≤ 5000) (hm : m ≤ 5000) :
    Calls Try.prog 14 #[v1, v2] w fun e w' => ∃ v, e = .returned v ∧ Below w.heap.size w w' ∧ Rn w' w.heap.size v (togV joinV x y).raw := by
  refine (join_S h1 h2 k1 k2 hn hm).mono ?_
  rintro e w' ⟨v, rfl, hR, hB⟩
  exact ⟨v, rfl, hB, hR⟩
theorem Rp.keepL {w w' : World} {L : List Nat} {v : Value} {s : S} (h : Rp w L v s) (hb : Below w.heap.size w w') : Rp w' L v s := h.of (fun _ t => .inl t) (fun k _ hk => hb.block k hk)
theorem Rp.putM {w : World} {L : List Nat} {k : Nat} {v : Value} {s : S} (h : Rp w L v s) (hk : k ∈ L) (r : Bool) (va sa : Value) : Rp (st3 w k r va sa) L v s := h.of (fun _ t => .inl t) (fun j hj _ => st3_block w k r va sa j (fun e => hj (e ▸ hk)))
set_option maxRecDepth 100000 in
set_option maxHeartbeats 8000000 in
theorem t3_411 {Q0 : Exit → Act → World → Prop} (X0 X1 X2 X13 X14 X15 X16 X17 X18 X19 X20 X21 X22 X23 X24 X25 X26 X27 X28 X29 : Value) (p q k5 k7 : Nat) (z1 z2 : Int) (q0 : Bool) (v0 s0 : Value) (q1 : Bool) (v1 s1 : Value) (x y : VS) (V : World) (_HX : Hid (∀ w', Below V.heap.size V w' → Rs w' (.agg #[.bool q0, v0, s0]) x.raw)) (_HY : Hid (∀ w', Below V.heap.size V w' → Rs w' (.agg #[.bool q1, v1, s1]) y.raw)) (_ox : Hid (VOk 60 x)) (_oy : Hid (VOk 60 y)) (HS : Hid (∀ w', Below V.heap.size V w' → (w'.cell? ⟨p, 0, none⟩ = some (.bool q0) ∧ w'.cell? ⟨p, 1, none⟩ = some (v0) ∧ w'.cell? ⟨p, 2, none⟩ = some (s0) ∧ w'.cell? ⟨q, 0, none⟩ = some (.bool q1) ∧ w'.cell? ⟨q, 1, none⟩ = some (v1) ∧ w'.cell? ⟨q, 2, none⟩ = some (s1)))) (hQ : Hid (∀ (w : World) (k10 k11 : Nat) (y30 y31 y32 y33 y34 y35 y36 : Value) (qx : Bool) (vx sx : Value) (qy : Bool) (vy sy : Value), Bs w k10 qx vx sx → Bs w k11 qy vy sy → Rs w (.agg #[.bool qx, vx, sx]) x.raw → Rs w (.agg #[.bool qy, vy, sy]) (togV joinV x y).raw → Below V.heap.size V w → Q0 .normal (a3 X0 X1 X2 X13 X14 X15 X16 X17 X18 X19 X20 X21 X22 X23 X24 X25 X26 X27 X28 X29 p q k5 k7 z1 z2 (.pointer (some ⟨k10, 0, none⟩)) (.pointer (some ⟨k11, 0, none⟩)) y30 y31 y32 y33 y34 y35 y36) w)) (w : World) (bw : Hid (Below V.heap.size V w)) (k10 : Nat) (K10 : Hid (Bs w k10 false (.slice none 0 0) (.slice none 0 0) ∧ Fs w k10 ∧ V.heap.size ≤ k10)) (k11 : Nat) (K11 : Hid (Bs w k11 false (.slice none 0 0) (.slice none 0 0) ∧ Fs w k11 ∧ V.heap.size ≤ k11)) (ne : Hid (k10 ≠ k11)) (y31 : Value) (P31 : Hid (Rp w [k10, k11] y31 x.raw)) (y33 : Value) (_P33 : Hid (Rp w [k10, k11] y33 x.raw)) (y35 : Value) (_P35 : Hid (Rp w [k10, k11] y35 y.raw)) (y36 : Value) (P36 : Hid (Rp w [k10, k11] y36 (togV joinV x y).raw)) :
    wpAnyH Try.prog .any r3ops Q0 (fun w' => w'.cell? ⟨p, 0, none⟩ = some (.bool q0) ∧ w'.cell? ⟨p, 1, none⟩ = some (v0) ∧ w'.cell? ⟨p, 2, none⟩ = some (s0) ∧ w'.cell? ⟨q, 0, none⟩ = some (.bool q1) ∧ w'.cell? ⟨q, 1, none⟩ = some (v1) ∧ w'.cell? ⟨q, 2, none⟩ = some (s1)) 2 #[true, true, true, true, true, true, true, true, true, false, false] (a3 X0 X1 X2 X13 X14 X15 X16 X17 X18 X19 X20 X21 X22 X23 X24 X25 X26 X27 X28 X29 p q k5 k7 z1 z2 (.pointer (some ⟨k10, 0, none⟩)) (.pointer (some ⟨k11, 0, none⟩)) (.agg #[.bool q0, v0, s0]) y31 (.agg #[.bool q0, v0, s0]) y33 (.agg #[.bool q1, v1, s1]) y35 y36) w := by
  obtain ⟨xa, xc, xb, xd, rfl, -⟩ := id P31.out
  obtain ⟨ya, yc, yb, yd, rfl, -⟩ := id P36.out
  have H := hide (And.intro K10.out.1 (And.intro K10.out.2.1 (And.intro K11.out.1 K11.out.2.1)))
  have hk10 := hide K10.out.2.2
  have hk11 := hide K11.out.2.2
  clear K10 K11
  generalize (togV joinV x y).raw.vs.length = ny at *
  generalize (togV joinV x y).raw.ss.length = my at *
  generalize x.raw.vs.length = nx at *
  generalize x.raw.ss.length = mx at *
  generalize hqy : (togV joinV x y).raw.r = qy at *
  generalize hqx : x.raw.r = qx at *
  clear hqx hqy
  refine wpAnyH_ready (rs := [9]) (by kernel_rfl) (by simp) ?_
  refine AllReadyH.cons (o := ({ dst := none, op := Op.store 29 (Operand.tmp 10) (Operand.tmp 31), type := 0, pos := _, after := _, guard := _ } : Oper)) rfl (fun K hK => ?_) AllReadyH.nil
  have e0 := H.out.1.c0
  have e1 := H.out.1.c1
  have e2 := H.out.1.c2
  have f0 := H.out.2.1.f0
  have f1 := H.out.2.1.f1
  have f2 := H.out.2.1.f2
  go_simp
  have H0 : Bs (st3 w k10 qx (.slice xa nx xc) (.slice xb mx xd)) k10 qx (.slice xa nx xc) (.slice xb mx xd) ∧ Fs (st3 w k10 qx (.slice xa nx xc) (.slice xb mx xd)) k10 ∧ Bs (st3 w k10 qx (.slice xa nx xc) (.slice xb mx xd)) k11 false (.slice none 0 0) (.slice none 0 0) ∧ Fs (st3 w k10 qx (.slice xa nx xc) (.slice xb mx xd)) k11 := ⟨H.out.1.put3 qx (.slice xa nx xc) (.slice xb mx xd), H.out.2.1.put3 (p := k10) qx (.slice xa nx xc) (.slice xb mx xd), H.out.2.2.1.far3 (p := k10) (fun e => ne.out e.symm) qx (.slice xa nx xc) (.slice xb mx xd), H.out.2.2.2.put3 (p := k10) qx (.slice xa nx xc) (.slice xb mx xd)⟩
  have Q31 := P31.out.putM (k := k10) (by simp) qx (.slice xa nx xc) (.slice xb mx xd)
  have Q36 := P36.out.putM (k := k10) (by simp) qx (.slice xa nx xc) (.slice xb mx xd)
  have b0 := hide (st3_below bw.out k10 hk10.out qx (.slice xa nx xc) (.slice xb mx xd))
  unfold st3 at H0 Q31 Q36 b0
  replace H := hide H0
  replace P31 := hide Q31
  replace P36 := hide Q36
  clear H0 Q31 Q36
  refine hK.out _ _ (HS.out _ b0.out) (fun _ => ?_)
  clear hK K e0 e1 e2 f0 f1 f2
  clear bw
  have bw := b0
  clear b0
  obtain ⟨w1, hw1⟩ : ∃ z9, z9 = ((w.setCell ⟨k10, 0, none⟩ (.bool qx)).setCell ⟨k10, 1, none⟩ (.slice xa nx xc)).setCell ⟨k10, 2, none⟩ (.slice xb mx xd) := ⟨_, rfl⟩
  rw [← hw1] at bw H P31 P36 ⊢
  clear hw1
  refine wpAnyH_ready (rs := [10]) (by kernel_rfl) (by simp) ?_
  refine AllReadyH.cons (o := ({ dst := none, op := Op.store 29 (Operand.tmp 11) (Operand.tmp 36), type := 0, pos := _, after := _, guard := _ } : Oper)) rfl (fun K hK => ?_) AllReadyH.nil
  have e0 := H.out.2.2.1.c0
  have e1 := H.out.2.2.1.c1
  have e2 := H.out.2.2.1.c2
  have f0 := H.out.2.2.2.f0
  have f1 := H.out.2.2.2.f1
  have f2 := H.out.2.2.2.f2
  go_simp
  have H1 : Bs (st3 w1 k11 qy (.slice ya ny yc) (.slice yb my yd)) k10 qx (.slice xa nx xc) (.slice xb mx xd) ∧ Fs (st3 w1 k11 qy (.slice ya ny yc) (.slice yb my yd)) k10 ∧ Bs (st3 w1 k11 qy (.slice ya ny yc) (.slice yb my yd)) k11 qy (.slice ya ny yc) (.slice yb my yd) ∧ Fs (st3 w1 k11 qy (.slice ya ny yc) (.slice yb my yd)) k11 := ⟨H.out.1.far3 (p := k11) ne.out qy (.slice ya ny yc) (.slice yb my yd), H.out.2.1.put3 (p := k11) qy (.slice ya ny yc) (.slice yb my yd), H.out.2.2.1.put3 qy (.slice ya ny yc) (.slice yb my yd), H.out.2.2.2.put3 (p := k11) qy (.slice ya ny yc) (.slice yb my yd)⟩
  have Q31 := P31.out.putM (k := k11) (by simp) qy (.slice ya ny yc) (.slice yb my yd)
  have Q36 := P36.out.putM (k := k11) (by simp) qy (.slice ya ny yc) (.slice yb my yd)
  have b1 := hide (st3_below bw.out k11 hk11.out qy (.slice ya ny yc) (.slice yb my yd))
  unfold st3 at H1 Q31 Q36 b1
  replace H := hide H1
  replace P31 := hide Q31
  replace P36 := hide Q36
  clear H1 Q31 Q36
  refine hK.out _ _ (HS.out _ b1.out) (fun _ => ?_)
  clear hK K e0 e1 e2 f0 f1 f2
  clear bw
  have bw := b1
  clear b1
  obtain ⟨w2, hw2⟩ : ∃ z9, z9 = ((w1.setCell ⟨k11, 0, none⟩ (.bool qy)).setCell ⟨k11, 1, none⟩ (.slice ya ny yc)).setCell ⟨k11, 2, none⟩ (.slice yb my yd) := ⟨_, rfl⟩
  rw [← hw2] at bw H P31 P36 ⊢
  clear hw2
  refine wpAnyH_done (by kernel_rfl) ?_ _
  exact hQ.out _ _ _ _ _ _ _ _ _ _ _ _ _ _ _ _ H.out.1 H.out.2.2.1 P31.out.rs P36.out.rs bw.out
set_option maxRecDepth 100000 in
set_option maxHeartbeats 8000000 in
theorem t3_410 {Q0 : Exit → Act → World → Prop} (X0 X1 X2 X13 X14 X15 X16 X17 X18 X19 X20 X21 X22 X23 X24 X25 X26 X27 X28 X29 : Value) (p q k5 k7 : Nat) (z1 z2 : Int) (q0 : Bool) (v0 s0 : Value) (q1 : Bool) (v1 s1 : Value) (x y : VS) (V : World) (HX : Hid (∀ w', Below V.heap.size V w' → Rs w' (.agg #[.bool q0, v0, s0]) x.raw)) (HY : Hid (∀ w', Below V.heap.size V w' → Rs w' (.agg #[.bool q1, v1, s1]) y.raw)) (ox : Hid (VOk 60 x)) (oy : Hid (VOk 60 y)) (HS : Hid (∀ w', Below V.heap.size V w' → (w'.cell? ⟨p, 0, none⟩ = some (.bool q0) ∧ w'.cell? ⟨p, 1, none⟩ = some (v0) ∧ w'.cell? ⟨p, 2, none⟩ = some (s0) ∧ w'.cell? ⟨q, 0, none⟩ = some (.bool q1) ∧ w'.cell? ⟨q, 1, none⟩ = some (v1) ∧ w'.cell? ⟨q, 2, none⟩ = some (s1)))) (hQ : Hid (∀ (w : World) (k10 k11 : Nat) (y30 y31 y32 y33 y34 y35 y36 : Value) (qx : Bool) (vx sx : Value) (qy : Bool) (vy sy : Value), Bs w k10 qx vx sx → Bs w k11 qy vy sy → Rs w (.agg #[.bool qx, vx, sx]) x.raw → Rs w (.agg #[.bool qy, vy, sy]) (togV joinV x y).raw → Below V.heap.size V w → Q0 .normal (a3 X0 X1 X2 X13 X14 X15 X16 X17 X18 X19 X20 X21 X22 X23 X24 X25 X26 X27 X28 X29 p q k5 k7 z1 z2 (.pointer (some ⟨k10, 0, none⟩)) (.pointer (some ⟨k11, 0, none⟩)) y30 y31 y32 y33 y34 y35 y36) w)) (w : World) (bw : Hid (Below V.heap.size V w)) (k10 : Nat) (K10 : Hid (Bs w k10 false (.slice none 0 0) (.slice none 0 0) ∧ Fs w k10 ∧ V.heap.size ≤ k10)) (y31 : Value) (P31 : Hid (Rp w [k10] y31 x.raw)) (y33 : Value) (P33 : Hid (Rp w [k10] y33 x.raw)) (y35 : Value) (P35 : Hid (Rp w [k10] y35 y.raw)) (y36 : Value) (P36 : Hid (Rp w [k10] y36 (togV joinV x y).raw)) :
    wpAnyH Try.prog .any r3ops Q0 (fun w' => w'.cell? ⟨p, 0, none⟩ = some (.bool q0) ∧ w'.cell? ⟨p, 1, none⟩ = some (v0) ∧ w'.cell? ⟨p, 2, none⟩ = some (s0) ∧ w'.cell? ⟨q, 0, none⟩ = some (.bool q1) ∧ w'.cell? ⟨q, 1, none⟩ = some (v1) ∧ w'.cell? ⟨q, 2, none⟩ = some (s1)) 3 #[true, true, true, true, true, true, true, true, false, false, false] (a3 X0 X1 X2 X13 X14 X15 X16 X17 X18 X19 X20 X21 X22 X23 X24 X25 X26 X27 X28 X29 p q k5 k7 z1 z2 (.pointer (some ⟨k10, 0, none⟩)) undef (.agg #[.bool q0, v0, s0]) y31 (.agg #[.bool q0, v0, s0]) y33 (.agg #[.bool q1, v1, s1]) y35 y36) w := by
  refine wpAnyH_ready (rs := [8]) (by kernel_rfl) (by simp) ?_
  refine AllReadyH.cons (o := ({ dst := some 11, op := Op.alloc 29, type := 0, pos := _, after := _, guard := _ } : Oper)) rfl (fun K hK => ?_) AllReadyH.nil
  · go_simp
    have hb : Below w.heap.size w (w.alloc (.cells #[.bool false, .slice none 0 0, .slice none 0 0] 29)) := (Below.refl _ _).alloc (Nat.le_refl _) _
    have b1 := hide (bw.out.trans (hb.mono bw.out.size))
    replace hb := hide hb
    refine hK.out _ _ (HS.out _ b1.out) (fun _ => ?_)
    clear hK K
    exact t3_411 X0 X1 X2 X13 X14 X15 X16 X17 X18 X19 X20 X21 X22 X23 X24 X25 X26 X27 X28 X29 p q k5 k7 z1 z2 q0 v0 s0 q1 v1 s1 x y V HX HY ox oy HS hQ (w.alloc (.cells #[.bool false, .slice none 0 0, .slice none 0 0] 29)) b1 (k10) (hide ⟨K10.out.1.keep hb.out, K10.out.2.1.of (hb.out.block _ K10.out.1.lt), K10.out.2.2⟩) (w.heap.size) (hide ⟨Bs.new w false (.slice none 0 0) (.slice none 0 0) 29, Fs.new w false (.slice none 0 0) (.slice none 0 0) 29, bw.out.size⟩) (hide (Nat.ne_of_lt K10.out.1.lt)) (y31) (hide (P31.out.of (by intro k hk; simp at hk ⊢; omega) (fun k _ hk => hb.out.block k hk))) (y33) (hide (P33.out.of (by intro k hk; simp at hk ⊢; omega) (fun k _ hk => hb.out.block k hk))) (y35) (hide (P35.out.of (by intro k hk; simp at hk ⊢; omega) (fun k _ hk => hb.out.block k hk))) (y36) (hide (P36.out.of (by intro k hk; simp at hk ⊢; omega) (fun k _ hk => hb.out.block k hk)))
set_option maxRecDepth 100000 in
set_option maxHeartbeats 8000000 in
theorem t3_401 {Q0 : Exit → Act → World → Prop} (X0 X1 X2 X13 X14 X15 X16 X17 X18 X19 X20 X21 X22 X23 X24 X25 X26 X27 X28 X29 : Value) (p q k5 k7 : Nat) (z1 z2 : Int) (q0 : Bool) (v0 s0 : Value) (q1 : Bool) (v1 s1 : Value) (x y : VS) (V : World) (HX : Hid (∀ w', Below V.heap.size V w' → Rs w' (.agg #[.bool q0, v0, s0]) x.raw)) (HY : Hid (∀ w', Below V.heap.size V w' → Rs w' (.agg #[.bool q1, v1, s1]) y.raw)) (ox : Hid (VOk 60 x)) (oy : Hid (VOk 60 y)) (HS : Hid (∀ w', Below V.heap.size V w' → (w'.cell? ⟨p, 0, none⟩ = some (.bool q0) ∧ w'.cell? ⟨p, 1, none⟩ = some (v0) ∧ w'.cell? ⟨p, 2, none⟩ = some (s0) ∧ w'.cell? ⟨q, 0, none⟩ = some (.bool q1) ∧ w'.cell? ⟨q, 1, none⟩ = some (v1) ∧ w'.cell? ⟨q, 2, none⟩ = some (s1)))) (hQ : Hid (∀ (w : World) (k10 k11 : Nat) (y30 y31 y32 y33 y34 y35 y36 : Value) (qx : Bool) (vx sx : Value) (qy : Bool) (vy sy : Value), Bs w k10 qx vx sx → Bs w k11 qy vy sy → Rs w (.agg #[.bool qx, vx, sx]) x.raw → Rs w (.agg #[.bool qy, vy, sy]) (togV joinV x y).raw → Below V.heap.size V w → Q0 .normal (a3 X0 X1 X2 X13 X14 X15 X16 X17 X18 X19 X20 X21 X22 X23 X24 X25 X26 X27 X28 X29 p q k5 k7 z1 z2 (.pointer (some ⟨k10, 0, none⟩)) (.pointer (some ⟨k11, 0, none⟩)) y30 y31 y32 y33 y34 y35 y36) w)) (w : World) (bw : Hid (Below V.heap.size V w)) (k11 : Nat) (K11 : Hid (Bs w k11 false (.slice none 0 0) (.slice none 0 0) ∧ Fs w k11 ∧ V.heap.size ≤ k11)) (y31 : Value) (P31 : Hid (Rp w [k11] y31 x.raw)) (y33 : Value) (P33 : Hid (Rp w [k11] y33 x.raw)) (y35 : Value) (P35 : Hid (Rp w [k11] y35 y.raw)) (y36 : Value) (P36 : Hid (Rp w [k11] y36 (togV joinV x y).raw)) :
    wpAnyH Try.prog .any r3ops Q0 (fun w' => w'.cell? ⟨p, 0, none⟩ = some (.bool q0) ∧ w'.cell? ⟨p, 1, none⟩ = some (v0) ∧ w'.cell? ⟨p, 2, none⟩ = some (s0) ∧ w'.cell? ⟨q, 0, none⟩ = some (.bool q1) ∧ w'.cell? ⟨q, 1, none⟩ = some (v1) ∧ w'.cell? ⟨q, 2, none⟩ = some (s1)) 3 #[true, true, true, true, true, true, true, false, true, false, false] (a3 X0 X1 X2 X13 X14 X15 X16 X17 X18 X19 X20 X21 X22 X23 X24 X25 X26 X27 X28 X29 p q k5 k7 z1 z2 undef (.pointer (some ⟨k11, 0, none⟩)) (.agg #[.bool q0, v0, s0]) y31 (.agg #[.bool q0, v0, s0]) y33 (.agg #[.bool q1, v1, s1]) y35 y36) w := by
  refine wpAnyH_ready (rs := [7]) (by kernel_rfl) (by simp) ?_
  refine AllReadyH.cons (o := ({ dst := some 10, op := Op.alloc 29, type := 0, pos := _, after := _, guard := _ } : Oper)) rfl (fun K hK => ?_) AllReadyH.nil
  · go_simp
    have hb : Below w.heap.size w (w.alloc (.cells #[.bool false, .slice none 0 0, .slice none 0 0] 29)) := (Below.refl _ _).alloc (Nat.le_refl _) _
    have b1 := hide (bw.out.trans (hb.mono bw.out.size))
    replace hb := hide hb
    refine hK.out _ _ (HS.out _ b1.out) (fun _ => ?_)
    clear hK K
    exact t3_411 X0 X1 X2 X13 X14 X15 X16 X17 X18 X19 X20 X21 X22 X23 X24 X25 X26 X27 X28 X29 p q k5 k7 z1 z2 q0 v0 s0 q1 v1 s1 x y V HX HY ox oy HS hQ (w.alloc (.cells #[.bool false, .slice none 0 0, .slice none 0 0] 29)) b1 (w.heap.size) (hide ⟨Bs.new w false (.slice none 0 0) (.slice none 0 0) 29, Fs.new w false (.slice none 0 0) (.slice none 0 0) 29, bw.out.size⟩) (k11) (hide ⟨K11.out.1.keep hb.out, K11.out.2.1.of (hb.out.block _ K11.out.1.lt), K11.out.2.2⟩) (hide (Nat.ne_of_gt K11.out.1.lt)) (y31) (hide (P31.out.of (by intro k hk; simp at hk ⊢; omega) (fun k _ hk => hb.out.block k hk))) (y33) (hide (P33.out.of (by intro k hk; simp at hk ⊢; omega) (fun k _ hk => hb.out.block k hk))) (y35) (hide (P35.out.of (by intro k hk; simp at hk ⊢; omega) (fun k _ hk => hb.out.block k hk))) (y36) (hide (P36.out.of (by intro k hk; simp at hk ⊢; omega) (fun k _ hk => hb.out.block k hk)))
set_option maxRecDepth 100000 in
set_option maxHeartbeats 8000000 in
theorem t3_400 {Q0 : Exit → Act → World → Prop} (X0 X1 X2 X13 X14 X15 X16 X17 X18 X19 X20 X21 X22 X23 X24 X25 X26 X27 X28 X29 : Value) (p q k5 k7 : Nat) (z1 z2 : Int) (q0 : Bool) (v0 s0 : Value) (q1 : Bool) (v1 s1 : Value) (x y : VS) (V : World) (HX : Hid (∀ w', Below V.heap.size V w' → Rs w' (.agg #[.bool q0, v0, s0]) x.raw)) (HY : Hid (∀ w', Below V.heap.size V w' → Rs w' (.agg #[.bool q1, v1, s1]) y.raw)) (ox : Hid (VOk 60 x)) (oy : Hid (VOk 60 y)) (HS : Hid (∀ w', Below V.heap.size V w' → (w'.cell? ⟨p, 0, none⟩ = some (.bool q0) ∧ w'.cell? ⟨p, 1, none⟩ = some (v0) ∧ w'.cell? ⟨p, 2, none⟩ = some (s0) ∧ w'.cell? ⟨q, 0, none⟩ = some (.bool q1) ∧ w'.cell? ⟨q, 1, none⟩ = some (v1) ∧ w'.cell? ⟨q, 2, none⟩ = some (s1)))) (hQ : Hid (∀ (w : World) (k10 k11 : Nat) (y30 y31 y32 y33 y34 y35 y36 : Value) (qx : Bool) (vx sx : Value) (qy : Bool) (vy sy : Value), Bs w k10 qx vx sx → Bs w k11 qy vy sy → Rs w (.agg #[.bool qx, vx, sx]) x.raw → Rs w (.agg #[.bool qy, vy, sy]) (togV joinV x y).raw → Below V.heap.size V w → Q0 .normal (a3 X0 X1 X2 X13 X14 X15 X16 X17 X18 X19 X20 X21 X22 X23 X24 X25 X26 X27 X28 X29 p q k5 k7 z1 z2 (.pointer (some ⟨k10, 0, none⟩)) (.pointer (some ⟨k11, 0, none⟩)) y30 y31 y32 y33 y34 y35 y36) w)) (w : World) (bw : Hid (Below V.heap.size V w)) (y31 : Value) (P31 : Hid (Rp w [] y31 x.raw)) (y33 : Value) (P33 : Hid (Rp w [] y33 x.raw)) (y35 : Value) (P35 : Hid (Rp w [] y35 y.raw)) (y36 : Value) (P36 : Hid (Rp w [] y36 (togV joinV x y).raw)) :
    wpAnyH Try.prog .any r3ops Q0 (fun w' => w'.cell? ⟨p, 0, none⟩ = some (.bool q0) ∧ w'.cell? ⟨p, 1, none⟩ = some (v0) ∧ w'.cell? ⟨p, 2, none⟩ = some (s0) ∧ w'.cell? ⟨q, 0, none⟩ = some (.bool q1) ∧ w'.cell? ⟨q, 1, none⟩ = some (v1) ∧ w'.cell? ⟨q, 2, none⟩ = some (s1)) 4 #[true, true, true, true, true, true, true, false, false, false, false] (a3 X0 X1 X2 X13 X14 X15 X16 X17 X18 X19 X20 X21 X22 X23 X24 X25 X26 X27 X28 X29 p q k5 k7 z1 z2 undef undef (.agg #[.bool q0, v0, s0]) y31 (.agg #[.bool q0, v0, s0]) y33 (.agg #[.bool q1, v1, s1]) y35 y36) w := by
  refine wpAnyH_ready (rs := [7, 8]) (by kernel_rfl) (by simp) ?_
  refine AllReadyH.cons (o := ({ dst := some 10, op := Op.alloc 29, type := 0, pos := _, after := _, guard := _ } : Oper)) rfl (fun K hK => ?_) (AllReadyH.cons (o := ({ dst := some 11, op := Op.alloc 29, type := 0, pos := _, after := _, guard := _ } : Oper)) rfl (fun K hK => ?_) AllReadyH.nil)
  · go_simp
    have hb : Below w.heap.size w (w.alloc (.cells #[.bool false, .slice none 0 0, .slice none 0 0] 29)) := (Below.refl _ _).alloc (Nat.le_refl _) _
    have b1 := hide (bw.out.trans (hb.mono bw.out.size))
    replace hb := hide hb
    refine hK.out _ _ (HS.out _ b1.out) (fun _ => ?_)
    clear hK K
    exact t3_410 X0 X1 X2 X13 X14 X15 X16 X17 X18 X19 X20 X21 X22 X23 X24 X25 X26 X27 X28 X29 p q k5 k7 z1 z2 q0 v0 s0 q1 v1 s1 x y V HX HY ox oy HS hQ (w.alloc (.cells #[.bool false, .slice none 0 0, .slice none 0 0] 29)) b1 (w.heap.size) (hide ⟨Bs.new w false (.slice none 0 0) (.slice none 0 0) 29, Fs.new w false (.slice none 0 0) (.slice none 0 0) 29, bw.out.size⟩) (y31) (hide (P31.out.of (by intro k hk; simp at hk ⊢; omega) (fun k _ hk => hb.out.block k hk))) (y33) (hide (P33.out.of (by intro k hk; simp at hk ⊢; omega) (fun k _ hk => hb.out.block k hk))) (y35) (hide (P35.out.of (by intro k hk; simp at hk ⊢; omega) (fun k _ hk => hb.out.block k hk))) (y36) (hide (P36.out.of (by intro k hk; simp at hk ⊢; omega) (fun k _ hk => hb.out.block k hk)))
  · go_simp
    have hb : Below w.heap.size w (w.alloc (.cells #[.bool false, .slice none 0 0, .slice none 0 0] 29)) := (Below.refl _ _).alloc (Nat.le_refl _) _
    have b1 := hide (bw.out.trans (hb.mono bw.out.size))
    replace hb := hide hb
    refine hK.out _ _ (HS.out _ b1.out) (fun _ => ?_)
    clear hK K
    exact t3_401 X0 X1 X2 X13 X14 X15 X16 X17 X18 X19 X20 X21 X22 X23 X24 X25 X26 X27 X28 X29 p q k5 k7 z1 z2 q0 v0 s0 q1 v1 s1 x y V HX HY ox oy HS hQ (w.alloc (.cells #[.bool false, .slice none 0 0, .slice none 0 0] 29)) b1 (w.heap.size) (hide ⟨Bs.new w false (.slice none 0 0) (.slice none 0 0) 29, Fs.new w false (.slice none 0 0) (.slice none 0 0) 29, bw.out.size⟩) (y31) (hide (P31.out.of (by intro k hk; simp at hk ⊢; omega) (fun k _ hk => hb.out.block k hk))) (y33) (hide (P33.out.of (by intro k hk; simp at hk ⊢; omega) (fun k _ hk => hb.out.block k hk))) (y35) (hide (P35.out.of (by intro k hk; simp at hk ⊢; omega) (fun k _ hk => hb.out.block k hk))) (y36) (hide (P36.out.of (by intro k hk; simp at hk ⊢; omega) (fun k _ hk => hb.out.block k hk)))
set_option maxRecDepth 100000 in
set_option maxHeartbeats 8000000 in
theorem t3_311 {Q0 : Exit → Act → World → Prop} (X0 X1 X2 X13 X14 X15 X16 X17 X18 X19 X20 X21 X22 X23 X24 X25 X26 X27 X28 X29 : Value) (p q k5 k7 : Nat) (z1 z2 : Int) (q0 : Bool) (v0 s0 : Value) (q1 : Bool) (v1 s1 : Value) (x y : VS) (V : World) (HX : Hid (∀ w', Below V.heap.size V w' → Rs w' (.agg #[.bool q0, v0, s0]) x.raw)) (HY : Hid (∀ w', Below V.heap.size V w' → Rs w' (.agg #[.bool q1, v1, s1]) y.raw)) (ox : Hid (VOk 60 x)) (oy : Hid (VOk 60 y)) (HS : Hid (∀ w', Below V.heap.size V w' → (w'.cell? ⟨p, 0, none⟩ = some (.bool q0) ∧ w'.cell? ⟨p, 1, none⟩ = some (v0) ∧ w'.cell? ⟨p, 2, none⟩ = some (s0) ∧ w'.cell? ⟨q, 0, none⟩ = some (.bool q1) ∧ w'.cell? ⟨q, 1, none⟩ = some (v1) ∧ w'.cell? ⟨q, 2, none⟩ = some (s1)))) (hQ : Hid (∀ (w : World) (k10 k11 : Nat) (y30 y31 y32 y33 y34 y35 y36 : Value) (qx : Bool) (vx sx : Value) (qy : Bool) (vy sy : Value), Bs w k10 qx vx sx → Bs w k11 qy vy sy → Rs w (.agg #[.bool qx, vx, sx]) x.raw → Rs w (.agg #[.bool qy, vy, sy]) (togV joinV x y).raw → Below V.heap.size V w → Q0 .normal (a3 X0 X1 X2 X13 X14 X15 X16 X17 X18 X19 X20 X21 X22 X23 X24 X25 X26 X27 X28 X29 p q k5 k7 z1 z2 (.pointer (some ⟨k10, 0, none⟩)) (.pointer (some ⟨k11, 0, none⟩)) y30 y31 y32 y33 y34 y35 y36) w)) (w : World) (bw : Hid (Below V.heap.size V w)) (k10 : Nat) (K10 : Hid (Bs w k10 false (.slice none 0 0) (.slice none 0 0) ∧ Fs w k10 ∧ V.heap.size ≤ k10)) (k11 : Nat) (K11 : Hid (Bs w k11 false (.slice none 0 0) (.slice none 0 0) ∧ Fs w k11 ∧ V.heap.size ≤ k11)) (ne : Hid (k10 ≠ k11)) (y31 : Value) (P31 : Hid (Rp w [k10, k11] y31 x.raw)) (y33 : Value) (P33 : Hid (Rp w [k10, k11] y33 x.raw)) (y35 : Value) (P35 : Hid (Rp w [k10, k11] y35 y.raw)) :
    wpAnyH Try.prog .any r3ops Q0 (fun w' => w'.cell? ⟨p, 0, none⟩ = some (.bool q0) ∧ w'.cell? ⟨p, 1, none⟩ = some (v0) ∧ w'.cell? ⟨p, 2, none⟩ = some (s0) ∧ w'.cell? ⟨q, 0, none⟩ = some (.bool q1) ∧ w'.cell? ⟨q, 1, none⟩ = some (v1) ∧ w'.cell? ⟨q, 2, none⟩ = some (s1)) 3 #[true, true, true, true, true, true, false, true, true, false, false] (a3 X0 X1 X2 X13 X14 X15 X16 X17 X18 X19 X20 X21 X22 X23 X24 X25 X26 X27 X28 X29 p q k5 k7 z1 z2 (.pointer (some ⟨k10, 0, none⟩)) (.pointer (some ⟨k11, 0, none⟩)) (.agg #[.bool q0, v0, s0]) y31 (.agg #[.bool q0, v0, s0]) y33 (.agg #[.bool q1, v1, s1]) y35 undef) w := by
  refine wpAnyH_ready (rs := [6]) (by kernel_rfl) (by simp) ?_
  refine AllReadyH.cons (o := ({ dst := some 36, op := Op.call { callee := Callee.value (Operand.func 14), args := #[Operand.tmp 33, Operand.tmp 35], argTypes := #[29, 29] }, type := 29, pos := _, after := _, guard := _ } : Oper)) rfl (fun K hK => ?_) AllReadyH.nil
  · go_simp
    go_at_call 14
    refine (joinN9 P33.out.rs P35.out.rs ox.out oy.out (by omega) (by omega)).mono ?_
    rintro e w1 ⟨yy, rfl, hb, hR⟩
    have b1 := hide (bw.out.trans (hb.mono bw.out.size))
    replace hR := hide hR
    replace hb := hide hb
    refine hK.out _ _ (HS.out _ b1.out) (fun _ => ?_)
    clear hK K
    exact t3_411 X0 X1 X2 X13 X14 X15 X16 X17 X18 X19 X20 X21 X22 X23 X24 X25 X26 X27 X28 X29 p q k5 k7 z1 z2 q0 v0 s0 q1 v1 s1 x y V HX HY ox oy HS hQ w1 b1 (k10) (hide ⟨K10.out.1.keep hb.out, K10.out.2.1.of (hb.out.block _ K10.out.1.lt), K10.out.2.2⟩) (k11) (hide ⟨K11.out.1.keep hb.out, K11.out.2.1.of (hb.out.block _ K11.out.1.lt), K11.out.2.2⟩) (ne) (y31) (hide (P31.out.keepL hb.out)) (y33) (hide (P33.out.keepL hb.out)) (y35) (hide (P35.out.keepL hb.out)) (yy) (hide (hR.out.rp (by intro k hk; simp at hk; have z10 := K10.out.1.lt; have z11 := K11.out.1.lt; omega)))
set_option maxRecDepth 100000 in
set_option maxHeartbeats 8000000 in
theorem t3_310 {Q0 : Exit → Act → World → Prop} (X0 X1 X2 X13 X14 X15 X16 X17 X18 X19 X20 X21 X22 X23 X24 X25 X26 X27 X28 X29 : Value) (p q k5 k7 : Nat) (z1 z2 : Int) (q0 : Bool) (v0 s0 : Value) (q1 : Bool) (v1 s1 : Value) (x y : VS) (V : World) (HX : Hid (∀ w', Below V.heap.size V w' → Rs w' (.agg #[.bool q0, v0, s0]) x.raw)) (HY : Hid (∀ w', Below V.heap.size V w' → Rs w' (.agg #[.bool q1, v1, s1]) y.raw)) (ox : Hid (VOk 60 x)) (oy : Hid (VOk 60 y)) (HS : Hid (∀ w', Below V.heap.size V w' → (w'.cell? ⟨p, 0, none⟩ = some (.bool q0) ∧ w'.cell? ⟨p, 1, none⟩ = some (v0) ∧ w'.cell? ⟨p, 2, none⟩ = some (s0) ∧ w'.cell? ⟨q, 0, none⟩ = some (.bool q1) ∧ w'.cell? ⟨q, 1, none⟩ = some (v1) ∧ w'.cell? ⟨q, 2, none⟩ = some (s1)))) (hQ : Hid (∀ (w : World) (k10 k11 : Nat) (y30 y31 y32 y33 y34 y35 y36 : Value) (qx : Bool) (vx sx : Value) (qy : Bool) (vy sy : Value), Bs w k10 qx vx sx → Bs w k11 qy vy sy → Rs w (.agg #[.bool qx, vx, sx]) x.raw → Rs w (.agg #[.bool qy, vy, sy]) (togV joinV x y).raw → Below V.heap.size V w → Q0 .normal (a3 X0 X1 X2 X13 X14 X15 X16 X17 X18 X19 X20 X21 X22 X23 X24 X25 X26 X27 X28 X29 p q k5 k7 z1 z2 (.pointer (some ⟨k10, 0, none⟩)) (.pointer (some ⟨k11, 0, none⟩)) y30 y31 y32 y33 y34 y35 y36) w)) (w : World) (bw : Hid (Below V.heap.size V w)) (k10 : Nat) (K10 : Hid (Bs w k10 false (.slice none 0 0) (.slice none 0 0) ∧ Fs w k10 ∧ V.heap.size ≤ k10)) (y31 : Value) (P31 : Hid (Rp w [k10] y31 x.raw)) (y33 : Value) (P33 : Hid (Rp w [k10] y33 x.raw)) (y35 : Value) (P35 : Hid (Rp w [k10] y35 y.raw)) :
    wpAnyH Try.prog .any r3ops Q0 (fun w' => w'.cell? ⟨p, 0, none⟩ = some (.bool q0) ∧ w'.cell? ⟨p, 1, none⟩ = some (v0) ∧ w'.cell? ⟨p, 2, none⟩ = some (s0) ∧ w'.cell? ⟨q, 0, none⟩ = some (.bool q1) ∧ w'.cell? ⟨q, 1, none⟩ = some (v1) ∧ w'.cell? ⟨q, 2, none⟩ = some (s1)) 4 #[true, true, true, true, true, true, false, true, false, false, false] (a3 X0 X1 X2 X13 X14 X15 X16 X17 X18 X19 X20 X21 X22 X23 X24 X25 X26 X27 X28 X29 p q k5 k7 z1 z2 (.pointer (some ⟨k10, 0, none⟩)) undef (.agg #[.bool q0, v0, s0]) y31 (.agg #[.bool q0, v0, s0]) y33 (.agg #[.bool q1, v1, s1]) y35 undef) w := by
  refine wpAnyH_ready (rs := [6, 8]) (by kernel_rfl) (by simp) ?_
  refine AllReadyH.cons (o := ({ dst := some 36, op := Op.call { callee := Callee.value (Operand.func 14), args := #[Operand.tmp 33, Operand.tmp 35], argTypes := #[29, 29] }, type := 29, pos := _, after := _, guard := _ } : Oper)) rfl (fun K hK => ?_) (AllReadyH.cons (o := ({ dst := some 11, op := Op.alloc 29, type := 0, pos := _, after := _, guard := _ } : Oper)) rfl (fun K hK => ?_) AllReadyH.nil)
  · go_simp
    go_at_call 14
    refine (joinN9 P33.out.rs P35.out.rs ox.out oy.out (by omega) (by omega)).mono ?_
    rintro e w1 ⟨yy, rfl, hb, hR⟩
    have b1 := hide (bw.out.trans (hb.mono bw.out.size))
    replace hR := hide hR
    replace hb := hide hb
    refine hK.out _ _ (HS.out _ b1.out) (fun _ => ?_)
    clear hK K
    exact t3_410 X0 X1 X2 X13 X14 X15 X16 X17 X18 X19 X20 X21 X22 X23 X24 X25 X26 X27 X28 X29 p q k5 k7 z1 z2 q0 v0 s0 q1 v1 s1 x y V HX HY ox oy HS hQ w1 b1 (k10) (hide ⟨K10.out.1.keep hb.out, K10.out.2.1.of (hb.out.block _ K10.out.1.lt), K10.out.2.2⟩) (y31) (hide (P31.out.keepL hb.out)) (y33) (hide (P33.out.keepL hb.out)) (y35) (hide (P35.out.keepL hb.out)) (yy) (hide (hR.out.rp (by intro k hk; simp at hk; have z10 := K10.out.1.lt; omega)))
  · go_simp
    have hb : Below w.heap.size w (w.alloc (.cells #[.bool false, .slice none 0 0, .slice none 0 0] 29)) := (Below.refl _ _).alloc (Nat.le_refl _) _
    have b1 := hide (bw.out.trans (hb.mono bw.out.size))
    replace hb := hide hb
    refine hK.out _ _ (HS.out _ b1.out) (fun _ => ?_)
    clear hK K
    exact t3_311 X0 X1 X2 X13 X14 X15 X16 X17 X18 X19 X20 X21 X22 X23 X24 X25 X26 X27 X28 X29 p q k5 k7 z1 z2 q0 v0 s0 q1 v1 s1 x y V HX HY ox oy HS hQ (w.alloc (.cells #[.bool false, .slice none 0 0, .slice none 0 0] 29)) b1 (k10) (hide ⟨K10.out.1.keep hb.out, K10.out.2.1.of (hb.out.block _ K10.out.1.lt), K10.out.2.2⟩) (w.heap.size) (hide ⟨Bs.new w false (.slice none 0 0) (.slice none 0 0) 29, Fs.new w false (.slice none 0 0) (.slice none 0 0) 29, bw.out.size⟩) (hide (Nat.ne_of_lt K10.out.1.lt)) (y31) (hide (P31.out.of (by intro k hk; simp at hk ⊢; omega) (fun k _ hk => hb.out.block k hk))) (y33) (hide (P33.out.of (by intro k hk; simp at hk ⊢; omega) (fun k _ hk => hb.out.block k hk))) (y35) (hide (P35.out.of (by intro k hk; simp at hk ⊢; omega) (fun k _ hk => hb.out.block k hk)))
set_option maxRecDepth 100000 in
set_option maxHeartbeats 8000000 in
theorem t3_301 {Q0 : Exit → Act → World → Prop} (X0 X1 X2 X13 X14 X15 X16 X17 X18 X19 X20 X21 X22 X23 X24 X25 X26 X27 X28 X29 : Value) (p q k5 k7 : Nat) (z1 z2 : Int) (q0 : Bool) (v0 s0 : Value) (q1 : Bool) (v1 s1 : Value) (x y : VS) (V : World) (HX : Hid (∀ w', Below V.heap.size V w' → Rs w' (.agg #[.bool q0, v0, s0]) x.raw)) (HY : Hid (∀ w', Below V.heap.size V w' → Rs w' (.agg #[.bool q1, v1, s1]) y.raw)) (ox : Hid (VOk 60 x)) (oy : Hid (VOk 60 y)) (HS : Hid (∀ w', Below V.heap.size V w' → (w'.cell? ⟨p, 0, none⟩ = some (.bool q0) ∧ w'.cell? ⟨p, 1, none⟩ = some (v0) ∧ w'.cell? ⟨p, 2, none⟩ = some (s0) ∧ w'.cell? ⟨q, 0, none⟩ = some (.bool q1) ∧ w'.cell? ⟨q, 1, none⟩ = some (v1) ∧ w'.cell? ⟨q, 2, none⟩ = some (s1)))) (hQ : Hid (∀ (w : World) (k10 k11 : Nat) (y30 y31 y32 y33 y34 y35 y36 : Value) (qx : Bool) (vx sx : Value) (qy : Bool) (vy sy : Value), Bs w k10 qx vx sx → Bs w k11 qy vy sy → Rs w (.agg #[.bool qx, vx, sx]) x.raw → Rs w (.agg #[.bool qy, vy, sy]) (togV joinV x y).raw → Below V.heap.size V w → Q0 .normal (a3 X0 X1 X2 X13 X14 X15 X16 X17 X18 X19 X20 X21 X22 X23 X24 X25 X26 X27 X28 X29 p q k5 k7 z1 z2 (.pointer (some ⟨k10, 0, none⟩)) (.pointer (some ⟨k11, 0, none⟩)) y30 y31 y32 y33 y34 y35 y36) w)) (w : World) (bw : Hid (Below V.heap.size V w)) (k11 : Nat) (K11 : Hid (Bs w k11 false (.slice none 0 0) (.slice none 0 0) ∧ Fs w k11 ∧ V.heap.size ≤ k11)) (y31 : Value) (P31 : Hid (Rp w [k11] y31 x.raw)) (y33 : Value) (P33 : Hid (Rp w [k11] y33 x.raw)) (y35 : Value) (P35 : Hid (Rp w [k11] y35 y.raw)) :
    wpAnyH Try.prog .any r3ops Q0 (fun w' => w'.cell? ⟨p, 0, none⟩ = some (.bool q0) ∧ w'.cell? ⟨p, 1, none⟩ = some (v0) ∧ w'.cell? ⟨p, 2, none⟩ = some (s0) ∧ w'.cell? ⟨q, 0, none⟩ = some (.bool q1) ∧ w'.cell? ⟨q, 1, none⟩ = some (v1) ∧ w'.cell? ⟨q, 2, none⟩ = some (s1)) 4 #[true, true, true, true, true, true, false, false, true, false, false] (a3 X0 X1 X2 X13 X14 X15 X16 X17 X18 X19 X20 X21 X22 X23 X24 X25 X26 X27 X28 X29 p q k5 k7 z1 z2 undef (.pointer (some ⟨k11, 0, none⟩)) (.agg #[.bool q0, v0, s0]) y31 (.agg #[.bool q0, v0, s0]) y33 (.agg #[.bool q1, v1, s1]) y35 undef) w := by
  refine wpAnyH_ready (rs := [6, 7]) (by kernel_rfl) (by simp) ?_
  refine AllReadyH.cons (o := ({ dst := some 36, op := Op.call { callee := Callee.value (Operand.func 14), args := #[Operand.tmp 33, Operand.tmp 35], argTypes := #[29, 29] }, type := 29, pos := _, after := _, guard := _ } : Oper)) rfl (fun K hK => ?_) (AllReadyH.cons (o := ({ dst := some 10, op := Op.alloc 29, type := 0, pos := _, after := _, guard := _ } : Oper)) rfl (fun K hK => ?_) AllReadyH.nil)
  · go_simp
    go_at_call 14
    refine (joinN9 P33.out.rs P35.out.rs ox.out oy.out (by omega) (by omega)).mono ?_
    rintro e w1 ⟨yy, rfl, hb, hR⟩
    have b1 := hide (bw.out.trans (hb.mono bw.out.size))
    replace hR := hide hR
    replace hb := hide hb
    refine hK.out _ _ (HS.out _ b1.out) (fun _ => ?_)
    clear hK K
    exact t3_401 X0 X1 X2 X13 X14 X15 X16 X17 X18 X19 X20 X21 X22 X23 X24 X25 X26 X27 X28 X29 p q k5 k7 z1 z2 q0 v0 s0 q1 v1 s1 x y V HX HY ox oy HS hQ w1 b1 (k11) (hide ⟨K11.out.1.keep hb.out, K11.out.2.1.of (hb.out.block _ K11.out.1.lt), K11.out.2.2⟩) (y31) (hide (P31.out.keepL hb.out)) (y33) (hide (P33.out.keepL hb.out)) (y35) (hide (P35.out.keepL hb.out)) (yy) (hide (hR.out.rp (by intro k hk; simp at hk; have z11 := K11.out.1.lt; omega)))
  · go_simp
    have hb : Below w.heap.size w (w.alloc (.cells #[.bool false, .slice none 0 0, .slice none 0 0] 29)) := (Below.refl _ _).alloc (Nat.le_refl _) _
    have b1 := hide (bw.out.trans (hb.mono bw.out.size))
    replace hb := hide hb
    refine hK.out _ _ (HS.out _ b1.out) (fun _ => ?_)
    clear hK K
    exact t3_311 X0 X1 X2 X13 X14 X15 X16 X17 X18 X19 X20 X21 X22 X23 X24 X25 X26 X27 X28 X29 p q k5 k7 z1 z2 q0 v0 s0 q1 v1 s1 x y V HX HY ox oy HS hQ (w.alloc (.cells #[.bool false, .slice none 0 0, .slice none 0 0] 29)) b1 (w.heap.size) (hide ⟨Bs.new w false (.slice none 0 0) (.slice none 0 0) 29, Fs.new w false (.slice none 0 0) (.slice none 0 0) 29, bw.out.size⟩) (k11) (hide ⟨K11.out.1.keep hb.out, K11.out.2.1.of (hb.out.block _ K11.out.1.lt), K11.out.2.2⟩) (hide (Nat.ne_of_gt K11.out.1.lt)) (y31) (hide (P31.out.of (by intro k hk; simp at hk ⊢; omega) (fun k _ hk => hb.out.block k hk))) (y33) (hide (P33.out.of (by intro k hk; simp at hk ⊢; omega) (fun k _ hk => hb.out.block k hk))) (y35) (hide (P35.out.of (by intro k hk; simp at hk ⊢; omega) (fun k _ hk => hb.out.block k hk)))
set_option maxRecDepth 100000 in
set_option maxHeartbeats 8000000 in
theorem t3_300 {Q0 : Exit → Act → World → Prop} (X0 X1 X2 X13 X14 X15 X16 X17 X18 X19 X20 X21 X22 X23 X24 X25 X26 X27 X28 X29 : Value) (p q k5 k7 : Nat) (z1 z2 : Int) (q0 : Bool) (v0 s0 : Value) (q1 : Bool) (v1 s1 : Value) (x y : VS) (V : World) (HX : Hid (∀ w', Below V.heap.size V w' → Rs w' (.agg #[.bool q0, v0, s0]) x.raw)) (HY : Hid (∀ w', Below V.heap.size V w' → Rs w' (.agg #[.bool q1, v1, s1]) y.raw)) (ox : Hid (VOk 60 x)) (oy : Hid (VOk 60 y)) (HS : Hid (∀ w', Below V.heap.size V w' → (w'.cell? ⟨p, 0, none⟩ = some (.bool q0) ∧ w'.cell? ⟨p, 1, none⟩ = some (v0) ∧ w'.cell? ⟨p, 2, none⟩ = some (s0) ∧ w'.cell? ⟨q, 0, none⟩ = some (.bool q1) ∧ w'.cell? ⟨q, 1, none⟩ = some (v1) ∧ w'.cell? ⟨q, 2, none⟩ = some (s1)))) (hQ : Hid (∀ (w : World) (k10 k11 : Nat) (y30 y31 y32 y33 y34 y35 y36 : Value) (qx : Bool) (vx sx : Value) (qy : Bool) (vy sy : Value), Bs w k10 qx vx sx → Bs w k11 qy vy sy → Rs w (.agg #[.bool qx, vx, sx]) x.raw → Rs w (.agg #[.bool qy, vy, sy]) (togV joinV x y).raw → Below V.heap.size V w → Q0 .normal (a3 X0 X1 X2 X13 X14 X15 X16 X17 X18 X19 X20 X21 X22 X23 X24 X25 X26 X27 X28 X29 p q k5 k7 z1 z2 (.pointer (some ⟨k10, 0, none⟩)) (.pointer (some ⟨k11, 0, none⟩)) y30 y31 y32 y33 y34 y35 y36) w)) (w : World) (bw : Hid (Below V.heap.size V w)) (y31 : Value) (P31 : Hid (Rp w [] y31 x.raw)) (y33 : Value) (P33 : Hid (Rp w [] y33 x.raw)) (y35 : Value) (P35 : Hid (Rp w [] y35 y.raw)) :
    wpAnyH Try.prog .any r3ops Q0 (fun w' => w'.cell? ⟨p, 0, none⟩ = some (.bool q0) ∧ w'.cell? ⟨p, 1, none⟩ = some (v0) ∧ w'.cell? ⟨p, 2, none⟩ = some (s0) ∧ w'.cell? ⟨q, 0, none⟩ = some (.bool q1) ∧ w'.cell? ⟨q, 1, none⟩ = some (v1) ∧ w'.cell? ⟨q, 2, none⟩ = some (s1)) 5 #[true, true, true, true, true, true, false, false, false, false, false] (a3 X0 X1 X2 X13 X14 X15 X16 X17 X18 X19 X20 X21 X22 X23 X24 X25 X26 X27 X28 X29 p q k5 k7 z1 z2 undef undef (.agg #[.bool q0, v0, s0]) y31 (.agg #[.bool q0, v0, s0]) y33 (.agg #[.bool q1, v1, s1]) y35 undef) w := by
  refine wpAnyH_ready (rs := [6, 7, 8]) (by kernel_rfl) (by simp) ?_
  refine AllReadyH.cons (o := ({ dst := some 36, op := Op.call { callee := Callee.value (Operand.func 14), args := #[Operand.tmp 33, Operand.tmp 35], argTypes := #[29, 29] }, type := 29, pos := _, after := _, guard := _ } : Oper)) rfl (fun K hK => ?_) (AllReadyH.cons (o := ({ dst := some 10, op := Op.alloc 29, type := 0, pos := _, after := _, guard := _ } : Oper)) rfl (fun K hK => ?_) (AllReadyH.cons (o := ({ dst := some 11, op := Op.alloc 29, type := 0, pos := _, after := _, guard := _ } : Oper)) rfl (fun K hK => ?_) AllReadyH.nil))
  · go_simp
    go_at_call 14
    refine (joinN9 P33.out.rs P35.out.rs ox.out oy.out (by omega) (by omega)).mono ?_
    rintro e w1 ⟨yy, rfl, hb, hR⟩
    have b1 := hide (bw.out.trans (hb.mono bw.out.size))
    replace hR := hide hR
    replace hb := hide hb
    refine hK.out _ _ (HS.out _ b1.out) (fun _ => ?_)
    clear hK K
    exact t3_400 X0 X1 X2 X13 X14 X15 X16 X17 X18 X19 X20 X21 X22 X23 X24 X25 X26 X27 X28 X29 p q k5 k7 z1 z2 q0 v0 s0 q1 v1 s1 x y V HX HY ox oy HS hQ w1 b1 (y31) (hide (P31.out.keepL hb.out)) (y33) (hide (P33.out.keepL hb.out)) (y35) (hide (P35.out.keepL hb.out)) (yy) (hide (hR.out.rp (by intro k hk; simp at hk)))
  · go_simp
    have hb : Below w.heap.size w (w.alloc (.cells #[.bool false, .slice none 0 0, .slice none 0 0] 29)) := (Below.refl _ _).alloc (Nat.le_refl _) _
    have b1 := hide (bw.out.trans (hb.mono bw.out.size))
    replace hb := hide hb
    refine hK.out _ _ (HS.out _ b1.out) (fun _ => ?_)
    clear hK K
    exact t3_310 X0 X1 X2 X13 X14 X15 X16 X17 X18 X19 X20 X21 X22 X23 X24 X25 X26 X27 X28 X29 p q k5 k7 z1 z2 q0 v0 s0 q1 v1 s1 x y V HX HY ox oy HS hQ (w.alloc (.cells #[.bool false, .slice none 0 0, .slice none 0 0] 29)) b1 (w.heap.size) (hide ⟨Bs.new w false (.slice none 0 0) (.slice none 0 0) 29, Fs.new w false (.slice none 0 0) (.slice none 0 0) 29, bw.out.size⟩) (y31) (hide (P31.out.of (by intro k hk; simp at hk ⊢; omega) (fun k _ hk => hb.out.block k hk))) (y33) (hide (P33.out.of (by intro k hk; simp at hk ⊢; omega) (fun k _ hk => hb.out.block k hk))) (y35) (hide (P35.out.of (by intro k hk; simp at hk ⊢; omega) (fun k _ hk => hb.out.block k hk)))
  · go_simp
    have hb : Below w.heap.size w (w.alloc (.cells #[.bool false, .slice none 0 0, .slice none 0 0] 29)) := (Below.refl _ _).alloc (Nat.le_refl _) _
    have b1 := hide (bw.out.trans (hb.mono bw.out.size))
    replace hb := hide hb
    refine hK.out _ _ (HS.out _ b1.out) (fun _ => ?_)
    clear hK K
    exact t3_301 X0 X1 X2 X13 X14 X15 X16 X17 X18 X19 X20 X21 X22 X23 X24 X25 X26 X27 X28 X29 p q k5 k7 z1 z2 q0 v0 s0 q1 v1 s1 x y V HX HY ox oy HS hQ (w.alloc (.cells #[.bool false, .slice none 0 0, .slice none 0 0] 29)) b1 (w.heap.size) (hide ⟨Bs.new w false (.slice none 0 0) (.slice none 0 0) 29, Fs.new w false (.slice none 0 0) (.slice none 0 0) 29, bw.out.size⟩) (y31) (hide (P31.out.of (by intro k hk; simp at hk ⊢; omega) (fun k _ hk => hb.out.block k hk))) (y33) (hide (P33.out.of (by intro k hk; simp at hk ⊢; omega) (fun k _ hk => hb.out.block k hk))) (y35) (hide (P35.out.of (by intro k hk; simp at hk ⊢; omega) (fun k _ hk => hb.out.block k hk)))
set_option maxRecDepth 100000 in
set_option maxHeartbeats 8000000 in
theorem t3_211 {Q0 : Exit → Act → World → Prop} (X0 X1 X2 X13 X14 X15 X16 X17 X18 X19 X20 X21 X22 X23 X24 X25 X26 X27 X28 X29 : Value) (p q k5 k7 : Nat) (z1 z2 : Int) (q0 : Bool) (v0 s0 : Value) (q1 : Bool) (v1 s1 : Value) (x y : VS) (V : World) (HX : Hid (∀ w', Below V.heap.size V w' → Rs w' (.agg #[.bool q0, v0, s0]) x.raw)) (HY : Hid (∀ w', Below V.heap.size V w' → Rs w' (.agg #[.bool q1, v1, s1]) y.raw)) (ox : Hid (VOk 60 x)) (oy : Hid (VOk 60 y)) (HS : Hid (∀ w', Below V.heap.size V w' → (w'.cell? ⟨p, 0, none⟩ = some (.bool q0) ∧ w'.cell? ⟨p, 1, none⟩ = some (v0) ∧ w'.cell? ⟨p, 2, none⟩ = some (s0) ∧ w'.cell? ⟨q, 0, none⟩ = some (.bool q1) ∧ w'.cell? ⟨q, 1, none⟩ = some (v1) ∧ w'.cell? ⟨q, 2, none⟩ = some (s1)))) (hQ : Hid (∀ (w : World) (k10 k11 : Nat) (y30 y31 y32 y33 y34 y35 y36 : Value) (qx : Bool) (vx sx : Value) (qy : Bool) (vy sy : Value), Bs w k10 qx vx sx → Bs w k11 qy vy sy → Rs w (.agg #[.bool qx, vx, sx]) x.raw → Rs w (.agg #[.bool qy, vy, sy]) (togV joinV x y).raw → Below V.heap.size V w → Q0 .normal (a3 X0 X1 X2 X13 X14 X15 X16 X17 X18 X19 X20 X21 X22 X23 X24 X25 X26 X27 X28 X29 p q k5 k7 z1 z2 (.pointer (some ⟨k10, 0, none⟩)) (.pointer (some ⟨k11, 0, none⟩)) y30 y31 y32 y33 y34 y35 y36) w)) (w : World) (bw : Hid (Below V.heap.size V w)) (k10 : Nat) (K10 : Hid (Bs w k10 false (.slice none 0 0) (.slice none 0 0) ∧ Fs w k10 ∧ V.heap.size ≤ k10)) (k11 : Nat) (K11 : Hid (Bs w k11 false (.slice none 0 0) (.slice none 0 0) ∧ Fs w k11 ∧ V.heap.size ≤ k11)) (ne : Hid (k10 ≠ k11)) (y31 : Value) (P31 : Hid (Rp w [k10, k11] y31 x.raw)) (y33 : Value) (P33 : Hid (Rp w [k10, k11] y33 x.raw)) :
    wpAnyH Try.prog .any r3ops Q0 (fun w' => w'.cell? ⟨p, 0, none⟩ = some (.bool q0) ∧ w'.cell? ⟨p, 1, none⟩ = some (v0) ∧ w'.cell? ⟨p, 2, none⟩ = some (s0) ∧ w'.cell? ⟨q, 0, none⟩ = some (.bool q1) ∧ w'.cell? ⟨q, 1, none⟩ = some (v1) ∧ w'.cell? ⟨q, 2, none⟩ = some (s1)) 4 #[true, true, true, true, true, false, false, true, true, false, false] (a3 X0 X1 X2 X13 X14 X15 X16 X17 X18 X19 X20 X21 X22 X23 X24 X25 X26 X27 X28 X29 p q k5 k7 z1 z2 (.pointer (some ⟨k10, 0, none⟩)) (.pointer (some ⟨k11, 0, none⟩)) (.agg #[.bool q0, v0, s0]) y31 (.agg #[.bool q0, v0, s0]) y33 (.agg #[.bool q1, v1, s1]) undef undef) w := by
  refine wpAnyH_ready (rs := [5]) (by kernel_rfl) (by simp) ?_
  refine AllReadyH.cons (o := ({ dst := some 35, op := Op.call { callee := Callee.value (Operand.func 11), args := #[Operand.tmp 34], argTypes := #[25] }, type := 29, pos := _, after := _, guard := _ } : Oper)) rfl (fun K hK => ?_) AllReadyH.nil
  · go_simp
    go_at_call 11
    refine (to_R (HY.out _ bw.out) oy.out (by omega)).mono ?_
    rintro e w1 ⟨yy, rfl, hb, hR⟩
    have b1 := hide (bw.out.trans (hb.mono bw.out.size))
    replace hR := hide hR
    replace hb := hide hb
    refine hK.out _ _ (HS.out _ b1.out) (fun _ => ?_)
    clear hK K
    exact t3_311 X0 X1 X2 X13 X14 X15 X16 X17 X18 X19 X20 X21 X22 X23 X24 X25 X26 X27 X28 X29 p q k5 k7 z1 z2 q0 v0 s0 q1 v1 s1 x y V HX HY ox oy HS hQ w1 b1 (k10) (hide ⟨K10.out.1.keep hb.out, K10.out.2.1.of (hb.out.block _ K10.out.1.lt), K10.out.2.2⟩) (k11) (hide ⟨K11.out.1.keep hb.out, K11.out.2.1.of (hb.out.block _ K11.out.1.lt), K11.out.2.2⟩) (ne) (y31) (hide (P31.out.keepL hb.out)) (y33) (hide (P33.out.keepL hb.out)) (yy) (hide (hR.out.rp (by intro k hk; simp at hk; have z10 := K10.out.1.lt; have z11 := K11.out.1.lt; omega)))
set_option maxRecDepth 100000 in
set_option maxHeartbeats 8000000 in
theorem t3_210 {Q0 : Exit → Act → World → Prop} (X0 X1 X2 X13 X14 X15 X16 X17 X18 X19 X20 X21 X22 X23 X24 X25 X26 X27 X28 X29 : Value) (p q k5 k7 : Nat) (z1 z2 : Int) (q0 : Bool) (v0 s0 : Value) (q1 : Bool) (v1 s1 : Value) (x y : VS) (V : World) (HX : Hid (∀ w', Below V.heap.size V w' → Rs w' (.agg #[.bool q0, v0, s0]) x.raw)) (HY : Hid (∀ w', Below V.heap.size V w' → Rs w' (.agg #[.bool q1, v1, s1]) y.raw)) (ox : Hid (VOk 60 x)) (oy : Hid (VOk 60 y)) (HS : Hid (∀ w', Below V.heap.size V w' → (w'.cell? ⟨p, 0, none⟩ = some (.bool q0) ∧ w'.cell? ⟨p, 1, none⟩ = some (v0) ∧ w'.cell? ⟨p, 2, none⟩ = some (s0) ∧ w'.cell? ⟨q, 0, none⟩ = some (.bool q1) ∧ w'.cell? ⟨q, 1, none⟩ = some (v1) ∧ w'.cell? ⟨q, 2, none⟩ = some (s1)))) (hQ : Hid (∀ (w : World) (k10 k11 : Nat) (y30 y31 y32 y33 y34 y35 y36 : Value) (qx : Bool) (vx sx : Value) (qy : Bool) (vy sy : Value), Bs w k10 qx vx sx → Bs w k11 qy vy sy → Rs w (.agg #[.bool qx, vx, sx]) x.raw → Rs w (.agg #[.bool qy, vy, sy]) (togV joinV x y).raw → Below V.heap.size V w → Q0 .normal (a3 X0 X1 X2 X13 X14 X15 X16 X17 X18 X19 X20 X21 X22 X23 X24 X25 X26 X27 X28 X29 p q k5 k7 z1 z2 (.pointer (some ⟨k10, 0, none⟩)) (.pointer (some ⟨k11, 0, none⟩)) y30 y31 y32 y33 y34 y35 y36) w)) (w : World) (bw : Hid (Below V.heap.size V w)) (k10 : Nat) (K10 : Hid (Bs w k10 false (.slice none 0 0) (.slice none 0 0) ∧ Fs w k10 ∧ V.heap.size ≤ k10)) (y31 : Value) (P31 : Hid (Rp w [k10] y31 x.raw)) (y33 : Value) (P33 : Hid (Rp w [k10] y33 x.raw)) :
    wpAnyH Try.prog .any r3ops Q0 (fun w' => w'.cell? ⟨p, 0, none⟩ = some (.bool q0) ∧ w'.cell? ⟨p, 1, none⟩ = some (v0) ∧ w'.cell? ⟨p, 2, none⟩ = some (s0) ∧ w'.cell? ⟨q, 0, none⟩ = some (.bool q1) ∧ w'.cell? ⟨q, 1, none⟩ = some (v1) ∧ w'.cell? ⟨q, 2, none⟩ = some (s1)) 5 #[true, true, true, true, true, false, false, true, false, false, false] (a3 X0 X1 X2 X13 X14 X15 X16 X17 X18 X19 X20 X21 X22 X23 X24 X25 X26 X27 X28 X29 p q k5 k7 z1 z2 (.pointer (some ⟨k10, 0, none⟩)) undef (.agg #[.bool q0, v0, s0]) y31 (.agg #[.bool q0, v0, s0]) y33 (.agg #[.bool q1, v1, s1]) undef undef) w := by
  refine wpAnyH_ready (rs := [5, 8]) (by kernel_rfl) (by simp) ?_
  refine AllReadyH.cons (o := ({ dst := some 35, op := Op.call { callee := Callee.value (Operand.func 11), args := #[Operand.tmp 34], argTypes := #[25] }, type := 29, pos := _, after := _, guard := _ } : Oper)) rfl (fun K hK => ?_) (AllReadyH.cons (o := ({ dst := some 11, op := Op.alloc 29, type := 0, pos := _, after := _, guard := _ } : Oper)) rfl (fun K hK => ?_) AllReadyH.nil)
  · go_simp
    go_at_call 11
    refine (to_R (HY.out _ bw.out) oy.out (by omega)).mono ?_
    rintro e w1 ⟨yy, rfl, hb, hR⟩
    have b1 := hide (bw.out.trans (hb.mono bw.out.size))
    replace hR := hide hR
    replace hb := hide hb
    refine hK.out _ _ (HS.out _ b1.out) (fun _ => ?_)
    clear hK K
    exact t3_310 X0 X1 X2 X13 X14 X15 X16 X17 X18 X19 X20 X21 X22 X23 X24 X25 X26 X27 X28 X29 p q k5 k7 z1 z2 q0 v0 s0 q1 v1 s1 x y V HX HY ox oy HS hQ w1 b1 (k10) (hide ⟨K10.out.1.keep hb.out, K10.out.2.1.of (hb.out.block _ K10.out.1.lt), K10.out.2.2⟩) (y31) (hide (P31.out.keepL hb.out)) (y33) (hide (P33.out.keepL hb.out)) (yy) (hide (hR.out.rp (by intro k hk; simp at hk; have z10 := K10.out.1.lt; omega)))
  · go_simp
    have hb : Below w.heap.size w (w.alloc (.cells #[.bool false, .slice none 0 0, .slice none 0 0] 29)) := (Below.refl _ _).alloc (Nat.le_refl _) _
    have b1 := hide (bw.out.trans (hb.mono bw.out.size))
    replace hb := hide hb
    refine hK.out _ _ (HS.out _ b1.out) (fun _ => ?_)
    clear hK K
    exact t3_211 X0 X1 X2 X13 X14 X15 X16 X17 X18 X19 X20 X21 X22 X23 X24 X25 X26 X27 X28 X29 p q k5 k7 z1 z2 q0 v0 s0 q1 v1 s1 x y V HX HY ox oy HS hQ (w.alloc (.cells #[.bool false, .slice none 0 0, .slice none 0 0] 29)) b1 (k10) (hide ⟨K10.out.1.keep hb.out, K10.out.2.1.of (hb.out.block _ K10.out.1.lt), K10.out.2.2⟩) (w.heap.size) (hide ⟨Bs.new w false (.slice none 0 0) (.slice none 0 0) 29, Fs.new w false (.slice none 0 0) (.slice none 0 0) 29, bw.out.size⟩) (hide (Nat.ne_of_lt K10.out.1.lt)) (y31) (hide (P31.out.of (by intro k hk; simp at hk ⊢; omega) (fun k _ hk => hb.out.block k hk))) (y33) (hide (P33.out.of (by intro k hk; simp at hk ⊢; omega) (fun k _ hk => hb.out.block k hk)))
set_option maxRecDepth 100000 in
set_option maxHeartbeats 8000000 in
theorem t3_201 {Q0 : Exit → Act → World → Prop} (X0 X1 X2 X13 X14 X15 X16 X17 X18 X19 X20 X21 X22 X23 X24 X25 X26 X27 X28 X29 : Value) (p q k5 k7 : Nat) (z1 z2 : Int) (q0 : Bool) (v0 s0 : Value) (q1 : Bool) (v1 s1 : Value) (x y : VS) (V : World) (HX : Hid (∀ w', Below V.heap.size V w' → Rs w' (.agg #[.bool q0, v0, s0]) x.raw)) (HY : Hid (∀ w', Below V.heap.size V w' → Rs w' (.agg #[.bool q1, v1, s1]) y.raw)) (ox : Hid (VOk 60 x)) (oy : Hid (VOk 60 y)) (HS : Hid (∀ w', Below V.heap.size V w' → (w'.cell? ⟨p, 0, none⟩ = some (.bool q0) ∧ w'.cell? ⟨p, 1, none⟩ = some (v0) ∧ w'.cell? ⟨p, 2, none⟩ = some (s0) ∧ w'.cell? ⟨q, 0, none⟩ = some (.bool q1) ∧ w'.cell? ⟨q, 1, none⟩ = some (v1) ∧ w'.cell? ⟨q, 2, none⟩ = some (s1)))) (hQ : Hid (∀ (w : World) (k10 k11 : Nat) (y30 y31 y32 y33 y34 y35 y36 : Value) (qx : Bool) (vx sx : Value) (qy : Bool) (vy sy : Value), Bs w k10 qx vx sx → Bs w k11 qy vy sy → Rs w (.agg #[.bool qx, vx, sx]) x.raw → Rs w (.agg #[.bool qy, vy, sy]) (togV joinV x y).raw → Below V.heap.size V w → Q0 .normal (a3 X0 X1 X2 X13 X14 X15 X16 X17 X18 X19 X20 X21 X22 X23 X24 X25 X26 X27 X28 X29 p q k5 k7 z1 z2 (.pointer (some ⟨k10, 0, none⟩)) (.pointer (some ⟨k11, 0, none⟩)) y30 y31 y32 y33 y34 y35 y36) w)) (w : World) (bw : Hid (Below V.heap.size V w)) (k11 : Nat) (K11 : Hid (Bs w k11 false (.slice none 0 0) (.slice none 0 0) ∧ Fs w k11 ∧ V.heap.size ≤ k11)) (y31 : Value) (P31 : Hid (Rp w [k11] y31 x.raw)) (y33 : Value) (P33 : Hid (Rp w [k11] y33 x.raw)) :
    wpAnyH Try.prog .any r3ops Q0 (fun w' => w'.cell? ⟨p, 0, none⟩ = some (.bool q0) ∧ w'.cell? ⟨p, 1, none⟩ = some (v0) ∧ w'.cell? ⟨p, 2, none⟩ = some (s0) ∧ w'.cell? ⟨q, 0, none⟩ = some (.bool q1) ∧ w'.cell? ⟨q, 1, none⟩ = some (v1) ∧ w'.cell? ⟨q, 2, none⟩ = some (s1)) 5 #[true, true, true, true, true, false, false, false, true, false, false] (a3 X0 X1 X2 X13 X14 X15 X16 X17 X18 X19 X20 X21 X22 X23 X24 X25 X26 X27 X28 X29 p q k5 k7 z1 z2 undef (.pointer (some ⟨k11, 0, none⟩)) (.agg #[.bool q0, v0, s0]) y31 (.agg #[.bool q0, v0, s0]) y33 (.agg #[.bool q1, v1, s1]) undef undef) w := by
  refine wpAnyH_ready (rs := [5, 7]) (by kernel_rfl) (by simp) ?_
  refine AllReadyH.cons (o := ({ dst := some 35, op := Op.call { callee := Callee.value (Operand.func 11), args := #[Operand.tmp 34], argTypes := #[25] }, type := 29, pos := _, after := _, guard := _ } : Oper)) rfl (fun K hK => ?_) (AllReadyH.cons (o := ({ dst := some 10, op := Op.alloc 29, type := 0, pos := _, after := _, guard := _ } : Oper)) rfl (fun K hK => ?_) AllReadyH.nil)
  · go_simp
    go_at_call 11
    refine (to_R (HY.out _ bw.out) oy.out (by omega)).mono ?_
    rintro e w1 ⟨yy, rfl, hb, hR⟩
    have b1 := hide (bw.out.trans (hb.mono bw.out.size))
    replace hR := hide hR
    replace hb := hide hb
    refine hK.out _ _ (HS.out _ b1.out) (fun _ => ?_)
    clear hK K
    exact t3_301 X0 X1 X2 X13 X14 X15 X16 X17 X18 X19 X20 X21 X22 X23 X24 X25 X26 X27 X28 X29 p q k5 k7 z1 z2 q0 v0 s0 q1 v1 s1 x y V HX HY ox oy HS hQ w1 b1 (k11) (hide ⟨K11.out.1.keep hb.out, K11.out.2.1.of (hb.out.block _ K11.out.1.lt), K11.out.2.2⟩) (y31) (hide (P31.out.keepL hb.out)) (y33) (hide (P33.out.keepL hb.out)) (yy) (hide (hR.out.rp (by intro k hk; simp at hk; have z11 := K11.out.1.lt; omega)))
  · go_simp
    have hb : Below w.heap.size w (w.alloc (.cells #[.bool false, .slice none 0 0, .slice none 0 0] 29)) := (Below.refl _ _).alloc (Nat.le_refl _) _
    have b1 := hide (bw.out.trans (hb.mono bw.out.size))
    replace hb := hide hb
    refine hK.out _ _ (HS.out _ b1.out) (fun _ => ?_)
    clear hK K
    exact t3_211 X0 X1 X2 X13 X14 X15 X16 X17 X18 X19 X20 X21 X22 X23 X24 X25 X26 X27 X28 X29 p q k5 k7 z1 z2 q0 v0 s0 q1 v1 s1 x y V HX HY ox oy HS hQ (w.alloc (.cells #[.bool false, .slice none 0 0, .slice none 0 0] 29)) b1 (w.heap.size) (hide ⟨Bs.new w false (.slice none 0 0) (.slice none 0 0) 29, Fs.new w false (.slice none 0 0) (.slice none 0 0) 29, bw.out.size⟩) (k11) (hide ⟨K11.out.1.keep hb.out, K11.out.2.1.of (hb.out.block _ K11.out.1.lt), K11.out.2.2⟩) (hide (Nat.ne_of_gt K11.out.1.lt)) (y31) (hide (P31.out.of (by intro k hk; simp at hk ⊢; omega) (fun k _ hk => hb.out.block k hk))) (y33) (hide (P33.out.of (by intro k hk; simp at hk ⊢; omega) (fun k _ hk => hb.out.block k hk)))
set_option maxRecDepth 100000 in
set_option maxHeartbeats 8000000 in
theorem t3_200 {Q0 : Exit → Act → World → Prop} (X0 X1 X2 X13 X14 X15 X16 X17 X18 X19 X20 X21 X22 X23 X24 X25 X26 X27 X28 X29 : Value) (p q k5 k7 : Nat) (z1 z2 : Int) (q0 : Bool) (v0 s0 : Value) (q1 : Bool) (v1 s1 : Value) (x y : VS) (V : World) (HX : Hid (∀ w', Below V.heap.size V w' → Rs w' (.agg #[.bool q0, v0, s0]) x.raw)) (HY : Hid (∀ w', Below V.heap.size V w' → Rs w' (.agg #[.bool q1, v1, s1]) y.raw)) (ox : Hid (VOk 60 x)) (oy : Hid (VOk 60 y)) (HS : Hid (∀ w', Below V.heap.size V w' → (w'.cell? ⟨p, 0, none⟩ = some (.bool q0) ∧ w'.cell? ⟨p, 1, none⟩ = some (v0) ∧ w'.cell? ⟨p, 2, none⟩ = some (s0) ∧ w'.cell? ⟨q, 0, none⟩ = some (.bool q1) ∧ w'.cell? ⟨q, 1, none⟩ = some (v1) ∧ w'.cell? ⟨q, 2, none⟩ = some (s1)))) (hQ : Hid (∀ (w : World) (k10 k11 : Nat) (y30 y31 y32 y33 y34 y35 y36 : Value) (qx : Bool) (vx sx : Value) (qy : Bool) (vy sy : Value), Bs w k10 qx vx sx → Bs w k11 qy vy sy → Rs w (.agg #[.bool qx, vx, sx]) x.raw → Rs w (.agg #[.bool qy, vy, sy]) (togV joinV x y).raw → Below V.heap.size V w → Q0 .normal (a3 X0 X1 X2 X13 X14 X15 X16 X17 X18 X19 X20 X21 X22 X23 X24 X25 X26 X27 X28 X29 p q k5 k7 z1 z2 (.pointer (some ⟨k10, 0, none⟩)) (.pointer (some ⟨k11, 0, none⟩)) y30 y31 y32 y33 y34 y35 y36) w)) (w : World) (bw : Hid (Below V.heap.size V w)) (y31 : Value) (P31 : Hid (Rp w [] y31 x.raw)) (y33 : Value) (P33 : Hid (Rp w [] y33 x.raw)) :
    wpAnyH Try.prog .any r3ops Q0 (fun w' => w'.cell? ⟨p, 0, none⟩ = some (.bool q0) ∧ w'.cell? ⟨p, 1, none⟩ = some (v0) ∧ w'.cell? ⟨p, 2, none⟩ = some (s0) ∧ w'.cell? ⟨q, 0, none⟩ = some (.bool q1) ∧ w'.cell? ⟨q, 1, none⟩ = some (v1) ∧ w'.cell? ⟨q, 2, none⟩ = some (s1)) 6 #[true, true, true, true, true, false, false, false, false, false, false] (a3 X0 X1 X2 X13 X14 X15 X16 X17 X18 X19 X20 X21 X22 X23 X24 X25 X26 X27 X28 X29 p q k5 k7 z1 z2 undef undef (.agg #[.bool q0, v0, s0]) y31 (.agg #[.bool q0, v0, s0]) y33 (.agg #[.bool q1, v1, s1]) undef undef) w := by
  refine wpAnyH_ready (rs := [5, 7, 8]) (by kernel_rfl) (by simp) ?_
  refine AllReadyH.cons (o := ({ dst := some 35, op := Op.call { callee := Callee.value (Operand.func 11), args := #[Operand.tmp 34], argTypes := #[25] }, type := 29, pos := _, after := _, guard := _ } : Oper)) rfl (fun K hK => ?_) (AllReadyH.cons (o := ({ dst := some 10, op := Op.alloc 29, type := 0, pos := _, after := _, guard := _ } : Oper)) rfl (fun K hK => ?_) (AllReadyH.cons (o := ({ dst := some 11, op := Op.alloc 29, type := 0, pos := _, after := _, guard := _ } : Oper)) rfl (fun K hK => ?_) AllReadyH.nil))
  · go_simp
    go_at_call 11
    refine (to_R (HY.out _ bw.out) oy.out (by omega)).mono ?_
    rintro e w1 ⟨yy, rfl, hb, hR⟩
    have b1 := hide (bw.out.trans (hb.mono bw.out.size))
    replace hR := hide hR
    replace hb := hide hb
    refine hK.out _ _ (HS.out _ b1.out) (fun _ => ?_)
    clear hK K
    exact t3_300 X0 X1 X2 X13 X14 X15 X16 X17 X18 X19 X20 X21 X22 X23 X24 X25 X26 X27 X28 X29 p q k5 k7 z1 z2 q0 v0 s0 q1 v1 s1 x y V HX HY ox oy HS hQ w1 b1 (y31) (hide (P31.out.keepL hb.out)) (y33) (hide (P33.out.keepL hb.out)) (yy) (hide (hR.out.rp (by intro k hk; simp at hk)))
  · go_simp
    have hb : Below w.heap.size w (w.alloc (.cells #[.bool false, .slice none 0 0, .slice none 0 0] 29)) := (Below.refl _ _).alloc (Nat.le_refl _) _
    have b1 := hide (bw.out.trans (hb.mono bw.out.size))
    replace hb := hide hb
    refine hK.out _ _ (HS.out _ b1.out) (fun _ => ?_)
    clear hK K
    exact t3_210 X0 X1 X2 X13 X14 X15 X16 X17 X18 X19 X20 X21 X22 X23 X24 X25 X26 X27 X28 X29 p q k5 k7 z1 z2 q0 v0 s0 q1 v1 s1 x y V HX HY ox oy HS hQ (w.alloc (.cells #[.bool false, .slice none 0 0, .slice none 0 0] 29)) b1 (w.heap.size) (hide ⟨Bs.new w false (.slice none 0 0) (.slice none 0 0) 29, Fs.new w false (.slice none 0 0) (.slice none 0 0) 29, bw.out.size⟩) (y31) (hide (P31.out.of (by intro k hk; simp at hk ⊢; omega) (fun k _ hk => hb.out.block k hk))) (y33) (hide (P33.out.of (by intro k hk; simp at hk ⊢; omega) (fun k _ hk => hb.out.block k hk)))
  · go_simp
    have hb : Below w.heap.size w (w.alloc (.cells #[.bool false, .slice none 0 0, .slice none 0 0] 29)) := (Below.refl _ _).alloc (Nat.le_refl _) _
    have b1 := hide (bw.out.trans (hb.mono bw.out.size))
    replace hb := hide hb
    refine hK.out _ _ (HS.out _ b1.out) (fun _ => ?_)
    clear hK K
    exact t3_201 X0 X1 X2 X13 X14 X15 X16 X17 X18 X19 X20 X21 X22 X23 X24 X25 X26 X27 X28 X29 p q k5 k7 z1 z2 q0 v0 s0 q1 v1 s1 x y V HX HY ox oy HS hQ (w.alloc (.cells #[.bool false, .slice none 0 0, .slice none 0 0] 29)) b1 (w.heap.size) (hide ⟨Bs.new w false (.slice none 0 0) (.slice none 0 0) 29, Fs.new w false (.slice none 0 0) (.slice none 0 0) 29, bw.out.size⟩) (y31) (hide (P31.out.of (by intro k hk; simp at hk ⊢; omega) (fun k _ hk => hb.out.block k hk))) (y33) (hide (P33.out.of (by intro k hk; simp at hk ⊢; omega) (fun k _ hk => hb.out.block k hk)))
set_option maxRecDepth 100000 in
set_option maxHeartbeats 8000000 in
theorem t3_111 {Q0 : Exit → Act → World → Prop} (X0 X1 X2 X13 X14 X15 X16 X17 X18 X19 X20 X21 X22 X23 X24 X25 X26 X27 X28 X29 : Value) (p q k5 k7 : Nat) (z1 z2 : Int) (q0 : Bool) (v0 s0 : Value) (q1 : Bool) (v1 s1 : Value) (x y : VS) (V : World) (HX : Hid (∀ w', Below V.heap.size V w' → Rs w' (.agg #[.bool q0, v0, s0]) x.raw)) (HY : Hid (∀ w', Below V.heap.size V w' → Rs w' (.agg #[.bool q1, v1, s1]) y.raw)) (ox : Hid (VOk 60 x)) (oy : Hid (VOk 60 y)) (HS : Hid (∀ w', Below V.heap.size V w' → (w'.cell? ⟨p, 0, none⟩ = some (.bool q0) ∧ w'.cell? ⟨p, 1, none⟩ = some (v0) ∧ w'.cell? ⟨p, 2, none⟩ = some (s0) ∧ w'.cell? ⟨q, 0, none⟩ = some (.bool q1) ∧ w'.cell? ⟨q, 1, none⟩ = some (v1) ∧ w'.cell? ⟨q, 2, none⟩ = some (s1)))) (hQ : Hid (∀ (w : World) (k10 k11 : Nat) (y30 y31 y32 y33 y34 y35 y36 : Value) (qx : Bool) (vx sx : Value) (qy : Bool) (vy sy : Value), Bs w k10 qx vx sx → Bs w k11 qy vy sy → Rs w (.agg #[.bool qx, vx, sx]) x.raw → Rs w (.agg #[.bool qy, vy, sy]) (togV joinV x y).raw → Below V.heap.size V w → Q0 .normal (a3 X0 X1 X2 X13 X14 X15 X16 X17 X18 X19 X20 X21 X22 X23 X24 X25 X26 X27 X28 X29 p q k5 k7 z1 z2 (.pointer (some ⟨k10, 0, none⟩)) (.pointer (some ⟨k11, 0, none⟩)) y30 y31 y32 y33 y34 y35 y36) w)) (w : World) (bw : Hid (Below V.heap.size V w)) (k10 : Nat) (K10 : Hid (Bs w k10 false (.slice none 0 0) (.slice none 0 0) ∧ Fs w k10 ∧ V.heap.size ≤ k10)) (k11 : Nat) (K11 : Hid (Bs w k11 false (.slice none 0 0) (.slice none 0 0) ∧ Fs w k11 ∧ V.heap.size ≤ k11)) (ne : Hid (k10 ≠ k11)) (y31 : Value) (P31 : Hid (Rp w [k10, k11] y31 x.raw)) :
    wpAnyH Try.prog .any r3ops Q0 (fun w' => w'.cell? ⟨p, 0, none⟩ = some (.bool q0) ∧ w'.cell? ⟨p, 1, none⟩ = some (v0) ∧ w'.cell? ⟨p, 2, none⟩ = some (s0) ∧ w'.cell? ⟨q, 0, none⟩ = some (.bool q1) ∧ w'.cell? ⟨q, 1, none⟩ = some (v1) ∧ w'.cell? ⟨q, 2, none⟩ = some (s1)) 5 #[true, true, true, false, true, false, false, true, true, false, false] (a3 X0 X1 X2 X13 X14 X15 X16 X17 X18 X19 X20 X21 X22 X23 X24 X25 X26 X27 X28 X29 p q k5 k7 z1 z2 (.pointer (some ⟨k10, 0, none⟩)) (.pointer (some ⟨k11, 0, none⟩)) (.agg #[.bool q0, v0, s0]) y31 (.agg #[.bool q0, v0, s0]) undef (.agg #[.bool q1, v1, s1]) undef undef) w := by
  refine wpAnyH_ready (rs := [3]) (by kernel_rfl) (by simp) ?_
  refine AllReadyH.cons (o := ({ dst := some 33, op := Op.call { callee := Callee.value (Operand.func 11), args := #[Operand.tmp 32], argTypes := #[25] }, type := 29, pos := _, after := _, guard := _ } : Oper)) rfl (fun K hK => ?_) AllReadyH.nil
  · go_simp
    go_at_call 11
    refine (to_R (HX.out _ bw.out) ox.out (by omega)).mono ?_
    rintro e w1 ⟨yy, rfl, hb, hR⟩
    have b1 := hide (bw.out.trans (hb.mono bw.out.size))
    replace hR := hide hR
    replace hb := hide hb
    refine hK.out _ _ (HS.out _ b1.out) (fun _ => ?_)
    clear hK K
    exact t3_211 X0 X1 X2 X13 X14 X15 X16 X17 X18 X19 X20 X21 X22 X23 X24 X25 X26 X27 X28 X29 p q k5 k7 z1 z2 q0 v0 s0 q1 v1 s1 x y V HX HY ox oy HS hQ w1 b1 (k10) (hide ⟨K10.out.1.keep hb.out, K10.out.2.1.of (hb.out.block _ K10.out.1.lt), K10.out.2.2⟩) (k11) (hide ⟨K11.out.1.keep hb.out, K11.out.2.1.of (hb.out.block _ K11.out.1.lt), K11.out.2.2⟩) (ne) (y31) (hide (P31.out.keepL hb.out)) (yy) (hide (hR.out.rp (by intro k hk; simp at hk; have z10 := K10.out.1.lt; have z11 := K11.out.1.lt; omega)))
set_option maxRecDepth 100000 in
set_option maxHeartbeats 8000000 in
theorem t3_110 {Q0 : Exit → Act → World → Prop} (X0 X1 X2 X13 X14 X15 X16 X17 X18 X19 X20 X21 X22 X23 X24 X25 X26 X27 X28 X29 : Value) (p q k5 k7 : Nat) (z1 z2 : Int) (q0 : Bool) (v0 s0 : Value) (q1 : Bool) (v1 s1 : Value) (x y : VS) (V : World) (HX : Hid (∀ w', Below V.heap.size V w' → Rs w' (.agg #[.bool q0, v0, s0]) x.raw)) (HY : Hid (∀ w', Below V.heap.size V w' → Rs w' (.agg #[.bool q1, v1, s1]) y.raw)) (ox : Hid (VOk 60 x)) (oy : Hid (VOk 60 y)) (HS : Hid (∀ w', Below V.heap.size V w' → (w'.cell? ⟨p, 0, none⟩ = some (.bool q0) ∧ w'.cell? ⟨p, 1, none⟩ = some (v0) ∧ w'.cell? ⟨p, 2, none⟩ = some (s0) ∧ w'.cell? ⟨q, 0, none⟩ = some (.bool q1) ∧ w'.cell? ⟨q, 1, none⟩ = some (v1) ∧ w'.cell? ⟨q, 2, none⟩ = some (s1)))) (hQ : Hid (∀ (w : World) (k10 k11 : Nat) (y30 y31 y32 y33 y34 y35 y36 : Value) (qx : Bool) (vx sx : Value) (qy : Bool) (vy sy : Value), Bs w k10 qx vx sx → Bs w k11 qy vy sy → Rs w (.agg #[.bool qx, vx, sx]) x.raw → Rs w (.agg #[.bool qy, vy, sy]) (togV joinV x y).raw → Below V.heap.size V w → Q0 .normal (a3 X0 X1 X2 X13 X14 X15 X16 X17 X18 X19 X20 X21 X22 X23 X24 X25 X26 X27 X28 X29 p q k5 k7 z1 z2 (.pointer (some ⟨k10, 0, none⟩)) (.pointer (some ⟨k11, 0, none⟩)) y30 y31 y32 y33 y34 y35 y36) w)) (w : World) (bw : Hid (Below V.heap.size V w)) (k10 : Nat) (K10 : Hid (Bs w k10 false (.slice none 0 0) (.slice none 0 0) ∧ Fs w k10 ∧ V.heap.size ≤ k10)) (y31 : Value) (P31 : Hid (Rp w [k10] y31 x.raw)) :
    wpAnyH Try.prog .any r3ops Q0 (fun w' => w'.cell? ⟨p, 0, none⟩ = some (.bool q0) ∧ w'.cell? ⟨p, 1, none⟩ = some (v0) ∧ w'.cell? ⟨p, 2, none⟩ = some (s0) ∧ w'.cell? ⟨q, 0, none⟩ = some (.bool q1) ∧ w'.cell? ⟨q, 1, none⟩ = some (v1) ∧ w'.cell? ⟨q, 2, none⟩ = some (s1)) 6 #[true, true, true, false, true, false, false, true, false, false, false] (a3 X0 X1 X2 X13 X14 X15 X16 X17 X18 X19 X20 X21 X22 X23 X24 X25 X26 X27 X28 X29 p q k5 k7 z1 z2 (.pointer (some ⟨k10, 0, none⟩)) undef (.agg #[.bool q0, v0, s0]) y31 (.agg #[.bool q0, v0, s0]) undef (.agg #[.bool q1, v1, s1]) undef undef) w := by
  refine wpAnyH_ready (rs := [3, 8]) (by kernel_rfl) (by simp) ?_
  refine AllReadyH.cons (o := ({ dst := some 33, op := Op.call { callee := Callee.value (Operand.func 11), args := #[Operand.tmp 32], argTypes := #[25] }, type := 29, pos := _, after := _, guard := _ } : Oper)) rfl (fun K hK => ?_) (AllReadyH.cons (o := ({ dst := some 11, op := Op.alloc 29, type := 0, pos := _, after := _, guard := _ } : Oper)) rfl (fun K hK => ?_) AllReadyH.nil)
  · go_simp
    go_at_call 11
    refine (to_R (HX.out _ bw.out) ox.out (by omega)).mono ?_
    rintro e w1 ⟨yy, rfl, hb, hR⟩
    have b1 := hide (bw.out.trans (hb.mono bw.out.size))
    replace hR := hide hR
    replace hb := hide hb
    refine hK.out _ _ (HS.out _ b1.out) (fun _ => ?_)
    clear hK K
    exact t3_210 X0 X1 X2 X13 X14 X15 X16 X17 X18 X19 X20 X21 X22 X23 X24 X25 X26 X27 X28 X29 p q k5 k7 z1 z2 q0 v0 s0 q1 v1 s1 x y V HX HY ox oy HS hQ w1 b1 (k10) (hide ⟨K10.out.1.keep hb.out, K10.out.2.1.of (hb.out.block _ K10.out.1.lt), K10.out.2.2⟩) (y31) (hide (P31.out.keepL hb.out)) (yy) (hide (hR.out.rp (by intro k hk; simp at hk; have z10 := K10.out.1.lt; omega)))
  · go_simp
    have hb : Below w.heap.size w (w.alloc (.cells #[.bool false, .slice none 0 0, .slice none 0 0] 29)) := (Below.refl _ _).alloc (Nat.le_refl _) _
    have b1 := hide (bw.out.trans (hb.mono bw.out.size))
    replace hb := hide hb
    refine hK.out _ _ (HS.out _ b1.out) (fun _ => ?_)
    clear hK K
    exact t3_111 X0 X1 X2 X13 X14 X15 X16 X17 X18 X19 X20 X21 X22 X23 X24 X25 X26 X27 X28 X29 p q k5 k7 z1 z2 q0 v0 s0 q1 v1 s1 x y V HX HY ox oy HS hQ (w.alloc (.cells #[.bool false, .slice none 0 0, .slice none 0 0] 29)) b1 (k10) (hide ⟨K10.out.1.keep hb.out, K10.out.2.1.of (hb.out.block _ K10.out.1.lt), K10.out.2.2⟩) (w.heap.size) (hide ⟨Bs.new w false (.slice none 0 0) (.slice none 0 0) 29, Fs.new w false (.slice none 0 0) (.slice none 0 0) 29, bw.out.size⟩) (hide (Nat.ne_of_lt K10.out.1.lt)) (y31) (hide (P31.out.of (by intro k hk; simp at hk ⊢; omega) (fun k _ hk => hb.out.block k hk)))
set_option maxRecDepth 100000 in
set_option maxHeartbeats 8000000 in
theorem t3_101 {Q0 : Exit → Act → World → Prop} (X0 X1 X2 X13 X14 X15 X16 X17 X18 X19 X20 X21 X22 X23 X24 X25 X26 X27 X28 X29 : Value) (p q k5 k7 : Nat) (z1 z2 : Int) (q0 : Bool) (v0 s0 : Value) (q1 : Bool) (v1 s1 : Value) (x y : VS) (V : World) (HX : Hid (∀ w', Below V.heap.size V w' → Rs w' (.agg #[.bool q0, v0, s0]) x.raw)) (HY : Hid (∀ w', Below V.heap.size V w' → Rs w' (.agg #[.bool q1, v1, s1]) y.raw)) (ox : Hid (VOk 60 x)) (oy : Hid (VOk 60 y)) (HS : Hid (∀ w', Below V.heap.size V w' → (w'.cell? ⟨p, 0, none⟩ = some (.bool q0) ∧ w'.cell? ⟨p, 1, none⟩ = some (v0) ∧ w'.cell? ⟨p, 2, none⟩ = some (s0) ∧ w'.cell? ⟨q, 0, none⟩ = some (.bool q1) ∧ w'.cell? ⟨q, 1, none⟩ = some (v1) ∧ w'.cell? ⟨q, 2, none⟩ = some (s1)))) (hQ : Hid (∀ (w : World) (k10 k11 : Nat) (y30 y31 y32 y33 y34 y35 y36 : Value) (qx : Bool) (vx sx : Value) (qy : Bool) (vy sy : Value), Bs w k10 qx vx sx → Bs w k11 qy vy sy → Rs w (.agg #[.bool qx, vx, sx]) x.raw → Rs w (.agg #[.bool qy, vy, sy]) (togV joinV x y).raw → Below V.heap.size V w → Q0 .normal (a3 X0 X1 X2 X13 X14 X15 X16 X17 X18 X19 X20 X21 X22 X23 X24 X25 X26 X27 X28 X29 p q k5 k7 z1 z2 (.pointer (some ⟨k10, 0, none⟩)) (.pointer (some ⟨k11, 0, none⟩)) y30 y31 y32 y33 y34 y35 y36) w)) (w : World) (bw : Hid (Below V.heap.size V w)) (k11 : Nat) (K11 : Hid (Bs w k11 false (.slice none 0 0) (.slice none 0 0) ∧ Fs w k11 ∧ V.heap.size ≤ k11)) (y31 : Value) (P31 : Hid (Rp w [k11] y31 x.raw)) :
    wpAnyH Try.prog .any r3ops Q0 (fun w' => w'.cell? ⟨p, 0, none⟩ = some (.bool q0) ∧ w'.cell? ⟨p, 1, none⟩ = some (v0) ∧ w'.cell? ⟨p, 2, none⟩ = some (s0) ∧ w'.cell? ⟨q, 0, none⟩ = some (.bool q1) ∧ w'.cell? ⟨q, 1, none⟩ = some (v1) ∧ w'.cell? ⟨q, 2, none⟩ = some (s1)) 6 #[true, true, true, false, true, false, false, false, true, false, false] (a3 X0 X1 X2 X13 X14 X15 X16 X17 X18 X19 X20 X21 X22 X23 X24 X25 X26 X27 X28 X29 p q k5 k7 z1 z2 undef (.pointer (some ⟨k11, 0, none⟩)) (.agg #[.bool q0, v0, s0]) y31 (.agg #[.bool q0, v0, s0]) undef (.agg #[.bool q1, v1, s1]) undef undef) w := by
  refine wpAnyH_ready (rs := [3, 7]) (by kernel_rfl) (by simp) ?_
  refine AllReadyH.cons (o := ({ dst := some 33, op := Op.call { callee := Callee.value (Operand.func 11), args := #[Operand.tmp 32], argTypes := #[25] }, type := 29, pos := _, after := _, guard := _ } : Oper)) rfl (fun K hK => ?_) (AllReadyH.cons (o := ({ dst := some 10, op := Op.alloc 29, type := 0, pos := _, after := _, guard := _ } : Oper)) rfl (fun K hK => ?_) AllReadyH.nil)
  · go_simp
    go_at_call 11
    refine (to_R (HX.out _ bw.out) ox.out (by omega)).mono ?_
    rintro e w1 ⟨yy, rfl, hb, hR⟩
    have b1 := hide (bw.out.trans (hb.mono bw.out.size))
    replace hR := hide hR
    replace hb := hide hb
    refine hK.out _ _ (HS.out _ b1.out) (fun _ => ?_)
    clear hK K
    exact t3_201 X0 X1 X2 X13 X14 X15 X16 X17 X18 X19 X20 X21 X22 X23 X24 X25 X26 X27 X28 X29 p q k5 k7 z1 z2 q0 v0 s0 q1 v1 s1 x y V HX HY ox oy HS hQ w1 b1 (k11) (hide ⟨K11.out.1.keep hb.out, K11.out.2.1.of (hb.out.block _ K11.out.1.lt), K11.out.2.2⟩) (y31) (hide (P31.out.keepL hb.out)) (yy) (hide (hR.out.rp (by intro k hk; simp at hk; have z11 := K11.out.1.lt; omega)))
  · go_simp
    have hb : Below w.heap.size w (w.alloc (.cells #[.bool false, .slice none 0 0, .slice none 0 0] 29)) := (Below.refl _ _).alloc (Nat.le_refl _) _
    have b1 := hide (bw.out.trans (hb.mono bw.out.size))
    replace hb := hide hb
    refine hK.out _ _ (HS.out _ b1.out) (fun _ => ?_)
    clear hK K
    exact t3_111 X0 X1 X2 X13 X14 X15 X16 X17 X18 X19 X20 X21 X22 X23 X24 X25 X26 X27 X28 X29 p q k5 k7 z1 z2 q0 v0 s0 q1 v1 s1 x y V HX HY ox oy HS hQ (w.alloc (.cells #[.bool false, .slice none 0 0, .slice none 0 0] 29)) b1 (w.heap.size) (hide ⟨Bs.new w false (.slice none 0 0) (.slice none 0 0) 29, Fs.new w false (.slice none 0 0) (.slice none 0 0) 29, bw.out.size⟩) (k11) (hide ⟨K11.out.1.keep hb.out, K11.out.2.1.of (hb.out.block _ K11.out.1.lt), K11.out.2.2⟩) (hide (Nat.ne_of_gt K11.out.1.lt)) (y31) (hide (P31.out.of (by intro k hk; simp at hk ⊢; omega) (fun k _ hk => hb.out.block k hk)))
set_option maxRecDepth 100000 in
set_option maxHeartbeats 8000000 in
theorem t3_100 {Q0 : Exit → Act → World → Prop} (X0 X1 X2 X13 X14 X15 X16 X17 X18 X19 X20 X21 X22 X23 X24 X25 X26 X27 X28 X29 : Value) (p q k5 k7 : Nat) (z1 z2 : Int) (q0 : Bool) (v0 s0 : Value) (q1 : Bool) (v1 s1 : Value) (x y : VS) (V : World) (HX : Hid (∀ w', Below V.heap.size V w' → Rs w' (.agg #[.bool q0, v0, s0]) x.raw)) (HY : Hid (∀ w', Below V.heap.size V w' → Rs w' (.agg #[.bool q1, v1, s1]) y.raw)) (ox : Hid (VOk 60 x)) (oy : Hid (VOk 60 y)) (HS : Hid (∀ w', Below V.heap.size V w' → (w'.cell? ⟨p, 0, none⟩ = some (.bool q0) ∧ w'.cell? ⟨p, 1, none⟩ = some (v0) ∧ w'.cell? ⟨p, 2, none⟩ = some (s0) ∧ w'.cell? ⟨q, 0, none⟩ = some (.bool q1) ∧ w'.cell? ⟨q, 1, none⟩ = some (v1) ∧ w'.cell? ⟨q, 2, none⟩ = some (s1)))) (hQ : Hid (∀ (w : World) (k10 k11 : Nat) (y30 y31 y32 y33 y34 y35 y36 : Value) (qx : Bool) (vx sx : Value) (qy : Bool) (vy sy : Value), Bs w k10 qx vx sx → Bs w k11 qy vy sy → Rs w (.agg #[.bool qx, vx, sx]) x.raw → Rs w (.agg #[.bool qy, vy, sy]) (togV joinV x y).raw → Below V.heap.size V w → Q0 .normal (a3 X0 X1 X2 X13 X14 X15 X16 X17 X18 X19 X20 X21 X22 X23 X24 X25 X26 X27 X28 X29 p q k5 k7 z1 z2 (.pointer (some ⟨k10, 0, none⟩)) (.pointer (some ⟨k11, 0, none⟩)) y30 y31 y32 y33 y34 y35 y36) w)) (w : World) (bw : Hid (Below V.heap.size V w)) (y31 : Value) (P31 : Hid (Rp w [] y31 x.raw)) :
    wpAnyH Try.prog .any r3ops Q0 (fun w' => w'.cell? ⟨p, 0, none⟩ = some (.bool q0) ∧ w'.cell? ⟨p, 1, none⟩ = some (v0) ∧ w'.cell? ⟨p, 2, none⟩ = some (s0) ∧ w'.cell? ⟨q, 0, none⟩ = some (.bool q1) ∧ w'.cell? ⟨q, 1, none⟩ = some (v1) ∧ w'.cell? ⟨q, 2, none⟩ = some (s1)) 7 #[true, true, true, false, true, false, false, false, false, false, false] (a3 X0 X1 X2 X13 X14 X15 X16 X17 X18 X19 X20 X21 X22 X23 X24 X25 X26 X27 X28 X29 p q k5 k7 z1 z2 undef undef (.agg #[.bool q0, v0, s0]) y31 (.agg #[.bool q0, v0, s0]) undef (.agg #[.bool q1, v1, s1]) undef undef) w := by
  refine wpAnyH_ready (rs := [3, 7, 8]) (by kernel_rfl) (by simp) ?_
  refine AllReadyH.cons (o := ({ dst := some 33, op := Op.call { callee := Callee.value (Operand.func 11), args := #[Operand.tmp 32], argTypes := #[25] }, type := 29, pos := _, after := _, guard := _ } : Oper)) rfl (fun K hK => ?_) (AllReadyH.cons (o := ({ dst := some 10, op := Op.alloc 29, type := 0, pos := _, after := _, guard := _ } : Oper)) rfl (fun K hK => ?_) (AllReadyH.cons (o := ({ dst := some 11, op := Op.alloc 29, type := 0, pos := _, after := _, guard := _ } : Oper)) rfl (fun K hK => ?_) AllReadyH.nil))
  · go_simp
    go_at_call 11
    refine (to_R (HX.out _ bw.out) ox.out (by omega)).mono ?_
    rintro e w1 ⟨yy, rfl, hb, hR⟩
    have b1 := hide (bw.out.trans (hb.mono bw.out.size))
    replace hR := hide hR
    replace hb := hide hb
    refine hK.out _ _ (HS.out _ b1.out) (fun _ => ?_)
    clear hK K
    exact t3_200 X0 X1 X2 X13 X14 X15 X16 X17 X18 X19 X20 X21 X22 X23 X24 X25 X26 X27 X28 X29 p q k5 k7 z1 z2 q0 v0 s0 q1 v1 s1 x y V HX HY ox oy HS hQ w1 b1 (y31) (hide (P31.out.keepL hb.out)) (yy) (hide (hR.out.rp (by intro k hk; simp at hk)))
  · go_simp
    have hb : Below w.heap.size w (w.alloc (.cells #[.bool false, .slice none 0 0, .slice none 0 0] 29)) := (Below.refl _ _).alloc (Nat.le_refl _) _
    have b1 := hide (bw.out.trans (hb.mono bw.out.size))
    replace hb := hide hb
    refine hK.out _ _ (HS.out _ b1.out) (fun _ => ?_)
    clear hK K
    exact t3_110 X0 X1 X2 X13 X14 X15 X16 X17 X18 X19 X20 X21 X22 X23 X24 X25 X26 X27 X28 X29 p q k5 k7 z1 z2 q0 v0 s0 q1 v1 s1 x y V HX HY ox oy HS hQ (w.alloc (.cells #[.bool false, .slice none 0 0, .slice none 0 0] 29)) b1 (w.heap.size) (hide ⟨Bs.new w false (.slice none 0 0) (.slice none 0 0) 29, Fs.new w false (.slice none 0 0) (.slice none 0 0) 29, bw.out.size⟩) (y31) (hide (P31.out.of (by intro k hk; simp at hk ⊢; omega) (fun k _ hk => hb.out.block k hk)))
  · go_simp
    have hb : Below w.heap.size w (w.alloc (.cells #[.bool false, .slice none 0 0, .slice none 0 0] 29)) := (Below.refl _ _).alloc (Nat.le_refl _) _
    have b1 := hide (bw.out.trans (hb.mono bw.out.size))
    replace hb := hide hb
    refine hK.out _ _ (HS.out _ b1.out) (fun _ => ?_)
    clear hK K
    exact t3_101 X0 X1 X2 X13 X14 X15 X16 X17 X18 X19 X20 X21 X22 X23 X24 X25 X26 X27 X28 X29 p q k5 k7 z1 z2 q0 v0 s0 q1 v1 s1 x y V HX HY ox oy HS hQ (w.alloc (.cells #[.bool false, .slice none 0 0, .slice none 0 0] 29)) b1 (w.heap.size) (hide ⟨Bs.new w false (.slice none 0 0) (.slice none 0 0) 29, Fs.new w false (.slice none 0 0) (.slice none 0 0) 29, bw.out.size⟩) (y31) (hide (P31.out.of (by intro k hk; simp at hk ⊢; omega) (fun k _ hk => hb.out.block k hk)))
set_option maxRecDepth 100000 in
set_option maxHeartbeats 8000000 in
theorem t3_011 {Q0 : Exit → Act → World → Prop} (X0 X1 X2 X13 X14 X15 X16 X17 X18 X19 X20 X21 X22 X23 X24 X25 X26 X27 X28 X29 : Value) (p q k5 k7 : Nat) (z1 z2 : Int) (q0 : Bool) (v0 s0 : Value) (q1 : Bool) (v1 s1 : Value) (x y : VS) (V : World) (HX : Hid (∀ w', Below V.heap.size V w' → Rs w' (.agg #[.bool q0, v0, s0]) x.raw)) (HY : Hid (∀ w', Below V.heap.size V w' → Rs w' (.agg #[.bool q1, v1, s1]) y.raw)) (ox : Hid (VOk 60 x)) (oy : Hid (VOk 60 y)) (HS : Hid (∀ w', Below V.heap.size V w' → (w'.cell? ⟨p, 0, none⟩ = some (.bool q0) ∧ w'.cell? ⟨p, 1, none⟩ = some (v0) ∧ w'.cell? ⟨p, 2, none⟩ = some (s0) ∧ w'.cell? ⟨q, 0, none⟩ = some (.bool q1) ∧ w'.cell? ⟨q, 1, none⟩ = some (v1) ∧ w'.cell? ⟨q, 2, none⟩ = some (s1)))) (hQ : Hid (∀ (w : World) (k10 k11 : Nat) (y30 y31 y32 y33 y34 y35 y36 : Value) (qx : Bool) (vx sx : Value) (qy : Bool) (vy sy : Value), Bs w k10 qx vx sx → Bs w k11 qy vy sy → Rs w (.agg #[.bool qx, vx, sx]) x.raw → Rs w (.agg #[.bool qy, vy, sy]) (togV joinV x y).raw → Below V.heap.size V w → Q0 .normal (a3 X0 X1 X2 X13 X14 X15 X16 X17 X18 X19 X20 X21 X22 X23 X24 X25 X26 X27 X28 X29 p q k5 k7 z1 z2 (.pointer (some ⟨k10, 0, none⟩)) (.pointer (some ⟨k11, 0, none⟩)) y30 y31 y32 y33 y34 y35 y36) w)) (w : World) (bw : Hid (Below V.heap.size V w)) (k10 : Nat) (K10 : Hid (Bs w k10 false (.slice none 0 0) (.slice none 0 0) ∧ Fs w k10 ∧ V.heap.size ≤ k10)) (k11 : Nat) (K11 : Hid (Bs w k11 false (.slice none 0 0) (.slice none 0 0) ∧ Fs w k11 ∧ V.heap.size ≤ k11)) (ne : Hid (k10 ≠ k11)) :
    wpAnyH Try.prog .any r3ops Q0 (fun w' => w'.cell? ⟨p, 0, none⟩ = some (.bool q0) ∧ w'.cell? ⟨p, 1, none⟩ = some (v0) ∧ w'.cell? ⟨p, 2, none⟩ = some (s0) ∧ w'.cell? ⟨q, 0, none⟩ = some (.bool q1) ∧ w'.cell? ⟨q, 1, none⟩ = some (v1) ∧ w'.cell? ⟨q, 2, none⟩ = some (s1)) 6 #[true, false, true, false, true, false, false, true, true, false, false] (a3 X0 X1 X2 X13 X14 X15 X16 X17 X18 X19 X20 X21 X22 X23 X24 X25 X26 X27 X28 X29 p q k5 k7 z1 z2 (.pointer (some ⟨k10, 0, none⟩)) (.pointer (some ⟨k11, 0, none⟩)) (.agg #[.bool q0, v0, s0]) undef (.agg #[.bool q0, v0, s0]) undef (.agg #[.bool q1, v1, s1]) undef undef) w := by
  refine wpAnyH_ready (rs := [1]) (by kernel_rfl) (by simp) ?_
  refine AllReadyH.cons (o := ({ dst := some 31, op := Op.call { callee := Callee.value (Operand.func 11), args := #[Operand.tmp 30], argTypes := #[25] }, type := 29, pos := _, after := _, guard := _ } : Oper)) rfl (fun K hK => ?_) AllReadyH.nil
  · go_simp
    go_at_call 11
    refine (to_R (HX.out _ bw.out) ox.out (by omega)).mono ?_
    rintro e w1 ⟨yy, rfl, hb, hR⟩
    have b1 := hide (bw.out.trans (hb.mono bw.out.size))
    replace hR := hide hR
    replace hb := hide hb
    refine hK.out _ _ (HS.out _ b1.out) (fun _ => ?_)
    clear hK K
    exact t3_111 X0 X1 X2 X13 X14 X15 X16 X17 X18 X19 X20 X21 X22 X23 X24 X25 X26 X27 X28 X29 p q k5 k7 z1 z2 q0 v0 s0 q1 v1 s1 x y V HX HY ox oy HS hQ w1 b1 (k10) (hide ⟨K10.out.1.keep hb.out, K10.out.2.1.of (hb.out.block _ K10.out.1.lt), K10.out.2.2⟩) (k11) (hide ⟨K11.out.1.keep hb.out, K11.out.2.1.of (hb.out.block _ K11.out.1.lt), K11.out.2.2⟩) (ne) (yy) (hide (hR.out.rp (by intro k hk; simp at hk; have z10 := K10.out.1.lt; have z11 := K11.out.1.lt; omega)))
set_option maxRecDepth 100000 in
set_option maxHeartbeats 8000000 in
theorem t3_010 {Q0 : Exit → Act → World → Prop} (X0 X1 X2 X13 X14 X15 X16 X17 X18 X19 X20 X21 X22 X23 X24 X25 X26 X27 X28 X29 : Value) (p q k5 k7 : Nat) (z1 z2 : Int) (q0 : Bool) (v0 s0 : Value) (q1 : Bool) (v1 s1 : Value) (x y : VS) (V : World) (HX : Hid (∀ w', Below V.heap.size V w' → Rs w' (.agg #[.bool q0, v0, s0]) x.raw)) (HY : Hid (∀ w', Below V.heap.size V w' → Rs w' (.agg #[.bool q1, v1, s1]) y.raw)) (ox : Hid (VOk 60 x)) (oy : Hid (VOk 60 y)) (HS : Hid (∀ w', Below V.heap.size V w' → (w'.cell? ⟨p, 0, none⟩ = some (.bool q0) ∧ w'.cell? ⟨p, 1, none⟩ = some (v0) ∧ w'.cell? ⟨p, 2, none⟩ = some (s0) ∧ w'.cell? ⟨q, 0, none⟩ = some (.bool q1) ∧ w'.cell? ⟨q, 1, none⟩ = some (v1) ∧ w'.cell? ⟨q, 2, none⟩ = some (s1)))) (hQ : Hid (∀ (w : World) (k10 k11 : Nat) (y30 y31 y32 y33 y34 y35 y36 : Value) (qx : Bool) (vx sx : Value) (qy : Bool) (vy sy : Value), Bs w k10 qx vx sx → Bs w k11 qy vy sy → Rs w (.agg #[.bool qx, vx, sx]) x.raw → Rs w (.agg #[.bool qy, vy, sy]) (togV joinV x y).raw → Below V.heap.size V w → Q0 .normal (a3 X0 X1 X2 X13 X14 X15 X16 X17 X18 X19 X20 X21 X22 X23 X24 X25 X26 X27 X28 X29 p q k5 k7 z1 z2 (.pointer (some ⟨k10, 0, none⟩)) (.pointer (some ⟨k11, 0, none⟩)) y30 y31 y32 y33 y34 y35 y36) w)) (w : World) (bw : Hid (Below V.heap.size V w)) (k10 : Nat) (K10 : Hid (Bs w k10 false (.slice none 0 0) (.slice none 0 0) ∧ Fs w k10 ∧ V.heap.size ≤ k10)) :
    wpAnyH Try.prog .any r3ops Q0 (fun w' => w'.cell? ⟨p, 0, none⟩ = some (.bool q0) ∧ w'.cell? ⟨p, 1, none⟩ = some (v0) ∧ w'.cell? ⟨p, 2, none⟩ = some (s0) ∧ w'.cell? ⟨q, 0, none⟩ = some (.bool q1) ∧ w'.cell? ⟨q, 1, none⟩ = some (v1) ∧ w'.cell? ⟨q, 2, none⟩ = some (s1)) 7 #[true, false, true, false, true, false, false, true, false, false, false] (a3 X0 X1 X2 X13 X14 X15 X16 X17 X18 X19 X20 X21 X22 X23 X24 X25 X26 X27 X28 X29 p q k5 k7 z1 z2 (.pointer (some ⟨k10, 0, none⟩)) undef (.agg #[.bool q0, v0, s0]) undef (.agg #[.bool q0, v0, s0]) undef (.agg #[.bool q1, v1, s1]) undef undef) w := by
  refine wpAnyH_ready (rs := [1, 8]) (by kernel_rfl) (by simp) ?_
  refine AllReadyH.cons (o := ({ dst := some 31, op := Op.call { callee := Callee.value (Operand.func 11), args := #[Operand.tmp 30], argTypes := #[25] }, type := 29, pos := _, after := _, guard := _ } : Oper)) rfl (fun K hK => ?_) (AllReadyH.cons (o := ({ dst := some 11, op := Op.alloc 29, type := 0, pos := _, after := _, guard := _ } : Oper)) rfl (fun K hK => ?_) AllReadyH.nil)
  · go_simp
    go_at_call 11
    refine (to_R (HX.out _ bw.out) ox.out (by omega)).mono ?_
    rintro e w1 ⟨yy, rfl, hb, hR⟩
    have b1 := hide (bw.out.trans (hb.mono bw.out.size))
    replace hR := hide hR
    replace hb := hide hb
    refine hK.out _ _ (HS.out _ b1.out) (fun _ => ?_)
    clear hK K
    exact t3_110 X0 X1 X2 X13 X14 X15 X16 X17 X18 X19 X20 X21 X22 X23 X24 X25 X26 X27 X28 X29 p q k5 k7 z1 z2 q0 v0 s0 q1 v1 s1 x y V HX HY ox oy HS hQ w1 b1 (k10) (hide ⟨K10.out.1.keep hb.out, K10.out.2.1.of (hb.out.block _ K10.out.1.lt), K10.out.2.2⟩) (yy) (hide (hR.out.rp (by intro k hk; simp at hk; have z10 := K10.out.1.lt; omega)))
  · go_simp
    have hb : Below w.heap.size w (w.alloc (.cells #[.bool false, .slice none 0 0, .slice none 0 0] 29)) := (Below.refl _ _).alloc (Nat.le_refl _) _
    have b1 := hide (bw.out.trans (hb.mono bw.out.size))
    replace hb := hide hb
    refine hK.out _ _ (HS.out _ b1.out) (fun _ => ?_)
    clear hK K
    exact t3_011 X0 X1 X2 X13 X14 X15 X16 X17 X18 X19 X20 X21 X22 X23 X24 X25 X26 X27 X28 X29 p q k5 k7 z1 z2 q0 v0 s0 q1 v1 s1 x y V HX HY ox oy HS hQ (w.alloc (.cells #[.bool false, .slice none 0 0, .slice none 0 0] 29)) b1 (k10) (hide ⟨K10.out.1.keep hb.out, K10.out.2.1.of (hb.out.block _ K10.out.1.lt), K10.out.2.2⟩) (w.heap.size) (hide ⟨Bs.new w false (.slice none 0 0) (.slice none 0 0) 29, Fs.new w false (.slice none 0 0) (.slice none 0 0) 29, bw.out.size⟩) (hide (Nat.ne_of_lt K10.out.1.lt))
set_option maxRecDepth 100000 in
set_option maxHeartbeats 8000000 in
theorem t3_001 {Q0 : Exit → Act → World → Prop} (X0 X1 X2 X13 X14 X15 X16 X17 X18 X19 X20 X21 X22 X23 X24 X25 X26 X27 X28 X29 : Value) (p q k5 k7 : Nat) (z1 z2 : Int) (q0 : Bool) (v0 s0 : Value) (q1 : Bool) (v1 s1 : Value) (x y : VS) (V : World) (HX : Hid (∀ w', Below V.heap.size V w' → Rs w' (.agg #[.bool q0, v0, s0]) x.raw)) (HY : Hid (∀ w', Below V.heap.size V w' → Rs w' (.agg #[.bool q1, v1, s1]) y.raw)) (ox : Hid (VOk 60 x)) (oy : Hid (VOk 60 y)) (HS : Hid (∀ w', Below V.heap.size V w' → (w'.cell? ⟨p, 0, none⟩ = some (.bool q0) ∧ w'.cell? ⟨p, 1, none⟩ = some (v0) ∧ w'.cell? ⟨p, 2, none⟩ = some (s0) ∧ w'.cell? ⟨q, 0, none⟩ = some (.bool q1) ∧ w'.cell? ⟨q, 1, none⟩ = some (v1) ∧ w'.cell? ⟨q, 2, none⟩ = some (s1)))) (hQ : Hid (∀ (w : World) (k10 k11 : Nat) (y30 y31 y32 y33 y34 y35 y36 : Value) (qx : Bool) (vx sx : Value) (qy : Bool) (vy sy : Value), Bs w k10 qx vx sx → Bs w k11 qy vy sy → Rs w (.agg #[.bool qx, vx, sx]) x.raw → Rs w (.agg #[.bool qy, vy, sy]) (togV joinV x y).raw → Below V.heap.size V w → Q0 .normal (a3 X0 X1 X2 X13 X14 X15 X16 X17 X18 X19 X20 X21 X22 X23 X24 X25 X26 X27 X28 X29 p q k5 k7 z1 z2 (.pointer (some ⟨k10, 0, none⟩)) (.pointer (some ⟨k11, 0, none⟩)) y30 y31 y32 y33 y34 y35 y36) w)) (w : World) (bw : Hid (Below V.heap.size V w)) (k11 : Nat) (K11 : Hid (Bs w k11 false (.slice none 0 0) (.slice none 0 0) ∧ Fs w k11 ∧ V.heap.size ≤ k11)) :
    wpAnyH Try.prog .any r3ops Q0 (fun w' => w'.cell? ⟨p, 0, none⟩ = some (.bool q0) ∧ w'.cell? ⟨p, 1, none⟩ = some (v0) ∧ w'.cell? ⟨p, 2, none⟩ = some (s0) ∧ w'.cell? ⟨q, 0, none⟩ = some (.bool q1) ∧ w'.cell? ⟨q, 1, none⟩ = some (v1) ∧ w'.cell? ⟨q, 2, none⟩ = some (s1)) 7 #[true, false, true, false, true, false, false, false, true, false, false] (a3 X0 X1 X2 X13 X14 X15 X16 X17 X18 X19 X20 X21 X22 X23 X24 X25 X26 X27 X28 X29 p q k5 k7 z1 z2 undef (.pointer (some ⟨k11, 0, none⟩)) (.agg #[.bool q0, v0, s0]) undef (.agg #[.bool q0, v0, s0]) undef (.agg #[.bool q1, v1, s1]) undef undef) w := by
  refine wpAnyH_ready (rs := [1, 7]) (by kernel_rfl) (by simp) ?_
  refine AllReadyH.cons (o := ({ dst := some 31, op := Op.call { callee := Callee.value (Operand.func 11), args := #[Operand.tmp 30], argTypes := #[25] }, type := 29, pos := _, after := _, guard := _ } : Oper)) rfl (fun K hK => ?_) (AllReadyH.cons (o := ({ dst := some 10, op := Op.alloc 29, type := 0, pos := _, after := _, guard := _ } : Oper)) rfl (fun K hK => ?_) AllReadyH.nil)
  · go_simp
    go_at_call 11
    refine (to_R (HX.out _ bw.out) ox.out (by omega)).mono ?_
    rintro e w1 ⟨yy, rfl, hb, hR⟩
    have b1 := hide (bw.out.trans (hb.mono bw.out.size))
    replace hR := hide hR
    replace hb := hide hb
    refine hK.out _ _ (HS.out _ b1.out) (fun _ => ?_)
    clear hK K
    exact t3_101 X0 X1 X2 X13 X14 X15 X16 X17 X18 X19 X20 X21 X22 X23 X24 X25 X26 X27 X28 X29 p q k5 k7 z1 z2 q0 v0 s0 q1 v1 s1 x y V HX HY ox oy HS hQ w1 b1 (k11) (hide ⟨K11.out.1.keep hb.out, K11.out.2.1.of (hb.out.block _ K11.out.1.lt), K11.out.2.2⟩) (yy) (hide (hR.out.rp (by intro k hk; simp at hk; have z11 := K11.out.1.lt; omega)))
  · go_simp
    have hb : Below w.heap.size w (w.alloc (.cells #[.bool false, .slice none 0 0, .slice none 0 0] 29)) := (Below.refl _ _).alloc (Nat.le_refl _) _
    have b1 := hide (bw.out.trans (hb.mono bw.out.size))
    replace hb := hide hb
    refine hK.out _ _ (HS.out _ b1.out) (fun _ => ?_)
    clear hK K
    exact t3_011 X0 X1 X2 X13 X14 X15 X16 X17 X18 X19 X20 X21 X22 X23 X24 X25 X26 X27 X28 X29 p q k5 k7 z1 z2 q0 v0 s0 q1 v1 s1 x y V HX HY ox oy HS hQ (w.alloc (.cells #[.bool false, .slice none 0 0, .slice none 0 0] 29)) b1 (w.heap.size) (hide ⟨Bs.new w false (.slice none 0 0) (.slice none 0 0) 29, Fs.new w false (.slice none 0 0) (.slice none 0 0) 29, bw.out.size⟩) (k11) (hide ⟨K11.out.1.keep hb.out, K11.out.2.1.of (hb.out.block _ K11.out.1.lt), K11.out.2.2⟩) (hide (Nat.ne_of_gt K11.out.1.lt))
set_option maxRecDepth 100000 in
set_option maxHeartbeats 8000000 in
theorem t3_000 {Q0 : Exit → Act → World → Prop} (X0 X1 X2 X13 X14 X15 X16 X17 X18 X19 X20 X21 X22 X23 X24 X25 X26 X27 X28 X29 : Value) (p q k5 k7 : Nat) (z1 z2 : Int) (q0 : Bool) (v0 s0 : Value) (q1 : Bool) (v1 s1 : Value) (x y : VS) (V : World) (HX : Hid (∀ w', Below V.heap.size V w' → Rs w' (.agg #[.bool q0, v0, s0]) x.raw)) (HY : Hid (∀ w', Below V.heap.size V w' → Rs w' (.agg #[.bool q1, v1, s1]) y.raw)) (ox : Hid (VOk 60 x)) (oy : Hid (VOk 60 y)) (HS : Hid (∀ w', Below V.heap.size V w' → (w'.cell? ⟨p, 0, none⟩ = some (.bool q0) ∧ w'.cell? ⟨p, 1, none⟩ = some (v0) ∧ w'.cell? ⟨p, 2, none⟩ = some (s0) ∧ w'.cell? ⟨q, 0, none⟩ = some (.bool q1) ∧ w'.cell? ⟨q, 1, none⟩ = some (v1) ∧ w'.cell? ⟨q, 2, none⟩ = some (s1)))) (hQ : Hid (∀ (w : World) (k10 k11 : Nat) (y30 y31 y32 y33 y34 y35 y36 : Value) (qx : Bool) (vx sx : Value) (qy : Bool) (vy sy : Value), Bs w k10 qx vx sx → Bs w k11 qy vy sy → Rs w (.agg #[.bool qx, vx, sx]) x.raw → Rs w (.agg #[.bool qy, vy, sy]) (togV joinV x y).raw → Below V.heap.size V w → Q0 .normal (a3 X0 X1 X2 X13 X14 X15 X16 X17 X18 X19 X20 X21 X22 X23 X24 X25 X26 X27 X28 X29 p q k5 k7 z1 z2 (.pointer (some ⟨k10, 0, none⟩)) (.pointer (some ⟨k11, 0, none⟩)) y30 y31 y32 y33 y34 y35 y36) w)) (w : World) (bw : Hid (Below V.heap.size V w))  :
    wpAnyH Try.prog .any r3ops Q0 (fun w' => w'.cell? ⟨p, 0, none⟩ = some (.bool q0) ∧ w'.cell? ⟨p, 1, none⟩ = some (v0) ∧ w'.cell? ⟨p, 2, none⟩ = some (s0) ∧ w'.cell? ⟨q, 0, none⟩ = some (.bool q1) ∧ w'.cell? ⟨q, 1, none⟩ = some (v1) ∧ w'.cell? ⟨q, 2, none⟩ = some (s1)) 8 #[true, false, true, false, true, false, false, false, false, false, false] (a3 X0 X1 X2 X13 X14 X15 X16 X17 X18 X19 X20 X21 X22 X23 X24 X25 X26 X27 X28 X29 p q k5 k7 z1 z2 undef undef (.agg #[.bool q0, v0, s0]) undef (.agg #[.bool q0, v0, s0]) undef (.agg #[.bool q1, v1, s1]) undef undef) w := by
  refine wpAnyH_ready (rs := [1, 7, 8]) (by kernel_rfl) (by simp) ?_
  refine AllReadyH.cons (o := ({ dst := some 31, op := Op.call { callee := Callee.value (Operand.func 11), args := #[Operand.tmp 30], argTypes := #[25] }, type := 29, pos := _, after := _, guard := _ } : Oper)) rfl (fun K hK => ?_) (AllReadyH.cons (o := ({ dst := some 10, op := Op.alloc 29, type := 0, pos := _, after := _, guard := _ } : Oper)) rfl (fun K hK => ?_) (AllReadyH.cons (o := ({ dst := some 11, op := Op.alloc 29, type := 0, pos := _, after := _, guard := _ } : Oper)) rfl (fun K hK => ?_) AllReadyH.nil))
  · go_simp
    go_at_call 11
    refine (to_R (HX.out _ bw.out) ox.out (by omega)).mono ?_
    rintro e w1 ⟨yy, rfl, hb, hR⟩
    have b1 := hide (bw.out.trans (hb.mono bw.out.size))
    replace hR := hide hR
    replace hb := hide hb
    refine hK.out _ _ (HS.out _ b1.out) (fun _ => ?_)
    clear hK K
    exact t3_100 X0 X1 X2 X13 X14 X15 X16 X17 X18 X19 X20 X21 X22 X23 X24 X25 X26 X27 X28 X29 p q k5 k7 z1 z2 q0 v0 s0 q1 v1 s1 x y V HX HY ox oy HS hQ w1 b1 (yy) (hide (hR.out.rp (by intro k hk; simp at hk)))
  · go_simp
    have hb : Below w.heap.size w (w.alloc (.cells #[.bool false, .slice none 0 0, .slice none 0 0] 29)) := (Below.refl _ _).alloc (Nat.le_refl _) _
    have b1 := hide (bw.out.trans (hb.mono bw.out.size))
    replace hb := hide hb
    refine hK.out _ _ (HS.out _ b1.out) (fun _ => ?_)
    clear hK K
    exact t3_010 X0 X1 X2 X13 X14 X15 X16 X17 X18 X19 X20 X21 X22 X23 X24 X25 X26 X27 X28 X29 p q k5 k7 z1 z2 q0 v0 s0 q1 v1 s1 x y V HX HY ox oy HS hQ (w.alloc (.cells #[.bool false, .slice none 0 0, .slice none 0 0] 29)) b1 (w.heap.size) (hide ⟨Bs.new w false (.slice none 0 0) (.slice none 0 0) 29, Fs.new w false (.slice none 0 0) (.slice none 0 0) 29, bw.out.size⟩)
  · go_simp
    have hb : Below w.heap.size w (w.alloc (.cells #[.bool false, .slice none 0 0, .slice none 0 0] 29)) := (Below.refl _ _).alloc (Nat.le_refl _) _
    have b1 := hide (bw.out.trans (hb.mono bw.out.size))
    replace hb := hide hb
    refine hK.out _ _ (HS.out _ b1.out) (fun _ => ?_)
    clear hK K
    exact t3_001 X0 X1 X2 X13 X14 X15 X16 X17 X18 X19 X20 X21 X22 X23 X24 X25 X26 X27 X28 X29 p q k5 k7 z1 z2 q0 v0 s0 q1 v1 s1 x y V HX HY ox oy HS hQ (w.alloc (.cells #[.bool false, .slice none 0 0, .slice none 0 0] 29)) b1 (w.heap.size) (hide ⟨Bs.new w false (.slice none 0 0) (.slice none 0 0) 29, Fs.new w false (.slice none 0 0) (.slice none 0 0) 29, bw.out.size⟩)
set_option maxRecDepth 100000 in
set_option maxHeartbeats 8000000 in
theorem t3 {Q0 : Exit → Act → World → Prop} (X0 X1 X2 X13 X14 X15 X16 X17 X18 X19 X20 X21 X22 X23 X24 X25 X26 X27 X28 X29 : Value) (p q k5 k7 : Nat) (z1 z2 : Int) (q0 : Bool) (v0 s0 : Value) (q1 : Bool) (v1 s1 : Value) (x y : VS) (V : World) (hP : ∀ c (a : Act) d v w, Q0 (.panic c) (a.put d v) w → Q0 (.panic c) a w) (hb3 : Bs V p q0 v0 s0) (hb4 : Bs V q q1 v1 s1) (hx : Rs V (.agg #[.bool q0, v0, s0]) x.raw) (hy : Rs V (.agg #[.bool q1, v1, s1]) y.raw) (ox : VOk 60 x) (oy : VOk 60 y) (hQ : ∀ (w : World) (k10 k11 : Nat) (y30 y31 y32 y33 y34 y35 y36 : Value) (qx : Bool) (vx sx : Value) (qy : Bool) (vy sy : Value), Bs w k10 qx vx sx → Bs w k11 qy vy sy → Rs w (.agg #[.bool qx, vx, sx]) x.raw → Rs w (.agg #[.bool qy, vy, sy]) (togV joinV x y).raw → Below V.heap.size V w → Q0 .normal (a3 X0 X1 X2 X13 X14 X15 X16 X17 X18 X19 X20 X21 X22 X23 X24 X25 X26 X27 X28 X29 p q k5 k7 z1 z2 (.pointer (some ⟨k10, 0, none⟩)) (.pointer (some ⟨k11, 0, none⟩)) y30 y31 y32 y33 y34 y35 y36) w) :
    (Code.region 3 #[{ dst := some 30, op := Op.load 25 (Operand.tmp 3), type := 25, pos := "law.go:106", after := #[], guard := none }, { dst := some 31, op := Op.call { callee := Callee.value (Operand.func 11), args := #[Operand.tmp 30], argTypes := #[25] }, type := 29, pos := "law.go:106", after := #[{ on := 0, ground := Ground.data }], guard := none }, { dst := some 32, op := Op.load 25 (Operand.tmp 3), type := 25, pos := "law.go:106", after := #[], guard := none }, { dst := some 33, op := Op.call { callee := Callee.value (Operand.func 11), args := #[Operand.tmp 32], argTypes := #[25] }, type := 29, pos := "law.go:106", after := #[{ on := 2, ground := Ground.data }, { on := 1, ground := Ground.chain }], guard := none }, { dst := some 34, op := Op.load 25 (Operand.tmp 4), type := 25, pos := "law.go:106", after := #[], guard := none }, { dst := some 35, op := Op.call { callee := Callee.value (Operand.func 11), args := #[Operand.tmp 34], argTypes := #[25] }, type := 29, pos := "law.go:106", after := #[{ on := 4, ground := Ground.data }, { on := 3, ground := Ground.chain }], guard := none }, { dst := some 36, op := Op.call { callee := Callee.value (Operand.func 14), args := #[Operand.tmp 33, Operand.tmp 35], argTypes := #[29, 29] }, type := 29, pos := "law.go:106", after := #[{ on := 3, ground := Ground.data }, { on := 5, ground := Ground.data }, { on := 5, ground := Ground.chain }], guard := none }, { dst := some 10, op := Op.alloc 29, type := 0, pos := "law.go:106", after := #[], guard := none }, { dst := some 11, op := Op.alloc 29, type := 0, pos := "law.go:106", after := #[], guard := none }, { dst := none, op := Op.store 29 (Operand.tmp 10) (Operand.tmp 31), type := 0, pos := "law.go:106", after := #[{ on := 7, ground := Ground.data }, { on := 1, ground := Ground.data }, { on := 6, ground := Ground.chain }, { on := 0, ground := Ground.phase }, { on := 1, ground := Ground.phase }, { on := 2, ground := Ground.textOnly Departure.lateStores }, { on := 3, ground := Ground.textOnly Departure.lateStoresUnsure }, { on := 4, ground := Ground.textOnly Departure.lateStores }, { on := 5, ground := Ground.textOnly Departure.lateStoresUnsure }, { on := 6, ground := Ground.textOnly Departure.lateStoresUnsure }, { on := 7, ground := Ground.phase }, { on := 8, ground := Ground.phase }], guard := none }, { dst := none, op := Op.store 29 (Operand.tmp 11) (Operand.tmp 36), type := 0, pos := "law.go:106", after := #[{ on := 8, ground := Ground.data }, { on := 6, ground := Ground.data }, { on := 9, ground := Ground.chain }, { on := 0, ground := Ground.phase }, { on := 1, ground := Ground.phase }, { on := 2, ground := Ground.phase }, { on := 3, ground := Ground.phase }, { on := 4, ground := Ground.phase }, { on := 5, ground := Ground.phase }, { on := 6, ground := Ground.phase }, { on := 7, ground := Ground.phase }, { on := 8, ground := Ground.phase }, { on := 9, ground := Ground.phase }], guard := none }] true).wp Try.prog Q0 (a3 X0 X1 X2 X13 X14 X15 X16 X17 X18 X19 X20 X21 X22 X23 X24 X25 X26 X27 X28 X29 p q k5 k7 z1 z2 undef undef undef undef undef undef undef undef undef) V := by
  dsimp only [a3]
  have HX : Hid (∀ w', Below V.heap.size V w' → Rs w' (.agg #[.bool q0, v0, s0]) x.raw) := hide (fun w' h => hx.keep h)
  have HY : Hid (∀ w', Below V.heap.size V w' → Rs w' (.agg #[.bool q1, v1, s1]) y.raw) := hide (fun w' h => hy.keep h)
  have HS : Hid (∀ w', Below V.heap.size V w' → (w'.cell? ⟨p, 0, none⟩ = some (.bool q0) ∧ w'.cell? ⟨p, 1, none⟩ = some (v0) ∧ w'.cell? ⟨p, 2, none⟩ = some (s0) ∧ w'.cell? ⟨q, 0, none⟩ = some (.bool q1) ∧ w'.cell? ⟨q, 1, none⟩ = some (v1) ∧ w'.cell? ⟨q, 2, none⟩ = some (s1))) := hide (fun w' h => ⟨(hb3.keep h).c0, (hb3.keep h).c1, (hb3.keep h).c2, (hb4.keep h).c0, (hb4.keep h).c1, (hb4.keep h).c2⟩)
  have OX := hide ox
  have OY := hide oy
  have HQ := hide hQ
  clear hx hy hb3 hb4 ox oy hQ
  refine wp_region_held_drew (S := fun w' => w'.cell? ⟨p, 0, none⟩ = some (.bool q0) ∧ w'.cell? ⟨p, 1, none⟩ = some (v0) ∧ w'.cell? ⟨p, 2, none⟩ = some (s0) ∧ w'.cell? ⟨q, 0, none⟩ = some (.bool q1) ∧ w'.cell? ⟨q, 1, none⟩ = some (v1) ∧ w'.cell? ⟨q, 2, none⟩ = some (s1)) (by kernel_rfl) (HS.out _ (Below.refl _ _).drew) (fun hH0 => ?_)
  obtain ⟨w0, hw0⟩ : ∃ w0, w0 = V.drew := ⟨_, rfl⟩
  (try rw [← hw0] at hH0)
  rw [← hw0]
  have b0 : Hid (Below V.heap.size V w0) := hw0 ▸ hide (Below.refl _ _).drew
  clear hw0
  refine wpAnyH_take (i := 0) (oi := ({ dst := some 30, op := Op.load 25 (Operand.tmp 3), type := 25, pos := _, after := _, guard := _ } : Oper)) (v := ?_) rfl (by kernel_rfl) (by kernel_rfl) (by kernel_rfl) (fun c a w h => hP c a _ _ w h) (Or.inl ⟨by rfl, ?_⟩) (by assumption) ?_
  rotate_left
  · (intro wz hSw; (try dsimp only at hSw); go_simp; try with_reducible rfl)
  simp only [Act.put, List.setIfInBounds_toArray, List.set_cons_zero, List.set_cons_succ]
  refine wpAnyH_take (i := 2) (oi := ({ dst := some 32, op := Op.load 25 (Operand.tmp 3), type := 25, pos := _, after := _, guard := _ } : Oper)) (v := ?_) rfl (by kernel_rfl) (by kernel_rfl) (by kernel_rfl) (fun c a w h => hP c a _ _ w h) (Or.inl ⟨by rfl, ?_⟩) (by assumption) ?_
  rotate_left
  · (intro wz hSw; (try dsimp only at hSw); go_simp; try with_reducible rfl)
  simp only [Act.put, List.setIfInBounds_toArray, List.set_cons_zero, List.set_cons_succ]
  refine wpAnyH_take (i := 4) (oi := ({ dst := some 34, op := Op.load 25 (Operand.tmp 4), type := 25, pos := _, after := _, guard := _ } : Oper)) (v := ?_) rfl (by kernel_rfl) (by kernel_rfl) (by kernel_rfl) (fun c a w h => hP c a _ _ w h) (Or.inl ⟨by rfl, ?_⟩) (by assumption) ?_
  rotate_left
  · (intro wz hSw; (try dsimp only at hSw); go_simp; try with_reducible rfl)
  simp only [Act.put, List.setIfInBounds_toArray, List.set_cons_zero, List.set_cons_succ]
  exact t3_000 X0 X1 X2 X13 X14 X15 X16 X17 X18 X19 X20 X21 X22 X23 X24 X25 X26 X27 X28 X29 p q k5 k7 z1 z2 q0 v0 s0 q1 v1 s1 x y V HX HY OX OY HS HQ w0 b0
end Go.Proofs.Ytmhicllhjiglkaa
