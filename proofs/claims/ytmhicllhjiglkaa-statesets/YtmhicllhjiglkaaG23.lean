import Derived.Test.YtmhicllhjiglkaaG17
import Derived.Test.YtmhicllhjiglkaaG18
import Derived.Test.YtmhicllhjiglkaaG22
namespace Go.Proofs.Ytmhicllhjiglkaa
open Go.RowKit
abbrev tt3Act (X0 X1 X7 X8 X9 X10 : Value) (p q : Nat) (y5 y6 y11 y12 y13 y14 : Value) : Act := { tmps := #[X0, X1, .pointer (some ⟨p, 0, none⟩), .pointer (some ⟨q, 0, none⟩), .bool false, y5, y6, X7, X8, X9, X10, y11, y12, y13, y14, undef, undef, undef, undef, undef, undef, undef, undef, undef, undef, undef, undef, undef, undef, undef, undef, undef, undef, undef, undef, undef, undef, undef, undef, undef, undef, undef, undef, undef, undef, undef, undef, undef, undef, undef, undef, undef, undef, undef, undef, undef, undef, undef, undef, undef, undef, undef, undef, undef, undef, undef, undef, undef, undef], defers := [] }
theorem to_R {w : World} {v : Value} {x : VS} {n : Nat} (h : Rs w v x.raw) (k : VOk n x) (hn : n ≤ 5000) : Calls Try.prog 11 #[v] w fun e w' => ∃ v', e = .returned v' ∧ Below w.heap.size w w' ∧ Rn w' w.heap.size v' x.raw := by
  obtain ⟨a, c, b, d, rfl, h1, h2, -⟩ := h
  have i3 := k.le
  have i1 := k.len
  refine (to_S a b c d x.raw.r x.raw.vs x.raw.ss w h1 h2 (by unfold VS.raw; dsimp only; rw [List.length_map]; omega) (by unfold VS.raw; dsimp only; omega) (k.inner hn)).mono ?_
  rintro e w' ⟨v', rfl, hR, hB⟩
  exact ⟨v', rfl, hB, hR⟩
theorem Rn.form9 {w : World} {N : Nat} {v : Value} {s : S} (h : Rn w N v s) : ∃ (qj : Bool) (ja : Option Addr) (nj jc : Nat) (jb : Option Addr) (mj jd : Nat), v = .agg #[.bool qj, .slice ja nj jc, .slice jb mj jd] := by
  obtain ⟨a, c, b, d, rfl, -⟩ := h
  exact ⟨_, _, _, _, _, _, _, rfl⟩
theorem Rp.putL {w : World} {L : List Nat} {k : Nat} {v : Value} {s : S} (h : Rp w L v s) (hk : k ∈ L) (r : Bool) (va sa : Value) : Rp (st3 w k r va sa) L v s := h.of (fun _ t => .inl t) (fun j hj _ => st3_block w k r va sa j (fun e => hj (e ▸ hk)))
set_option maxRecDepth 100000 in
set_option maxHeartbeats 8000000 in
theorem tt3 {Q0 : Exit → Act → World → Prop} (hP : ∀ c (a : Act) d v w, Q0 (.panic c) (a.put d v) w → Q0 (.panic c) a w) (X0 X1 X7 X8 X9 X10 : Value) (p q : Nat) (q0 : Bool) (v0 s0 : Value) (q1 : Bool) (v1 s1 : Value) (x y : VS) (V : World) (hb3 : Bs V p q0 v0 s0) (hb4 : Bs V q q1 v1 s1)
    (hx : Rs V (.agg #[.bool q0, v0, s0]) x.raw) (hy : Rs V (.agg #[.bool q1, v1, s1]) y.raw) (ox : VOk 60 x) (oy : VOk 60 y)
    (hQ : ∀ (w : World) (k5 k6 : Nat) (qx : Bool) (xa : Option Addr) (xn xc : Nat) (xb : Option Addr) (xm xd : Nat) (qy : Bool) (ya : Option Addr) (yn yc : Nat) (yb : Option Addr) (ym yd : Nat), Bs w k5 qx (.slice xa xn xc) (.slice xb xm xd) → Bs w k6 qy (.slice ya yn yc) (.slice yb ym yd) → Rs w (.agg #[.bool qx, .slice xa xn xc, .slice xb xm xd]) x.raw → Rs w (.agg #[.bool qy, .slice ya yn yc, .slice yb ym yd]) y.raw → Below V.heap.size V w → Q0 .normal (tt3Act X0 X1 X7 X8 X9 X10 p q (.pointer (some ⟨k5, 0, none⟩)) (.pointer (some ⟨k6, 0, none⟩)) (.agg #[.bool q0, v0, s0]) (.agg #[.bool qx, .slice xa xn xc, .slice xb xm xd]) (.agg #[.bool q1, v1, s1]) (.agg #[.bool qy, .slice ya yn yc, .slice yb ym yd])) w) :
    (Code.region 2 #[{ dst := some 11, op := Op.load 25 (Operand.tmp 2), type := 25, pos := "law.go:50", after := #[], guard := none }, { dst := some 12, op := Op.call { callee := Callee.value (Operand.func 11), args := #[Operand.tmp 11], argTypes := #[25] }, type := 29, pos := "law.go:50", after := #[{ on := 0, ground := Ground.data }], guard := none }, { dst := some 13, op := Op.load 25 (Operand.tmp 3), type := 25, pos := "law.go:50", after := #[], guard := none }, { dst := some 14, op := Op.call { callee := Callee.value (Operand.func 11), args := #[Operand.tmp 13], argTypes := #[25] }, type := 29, pos := "law.go:50", after := #[{ on := 2, ground := Ground.data }, { on := 1, ground := Ground.chain }], guard := none }, { dst := some 5, op := Op.alloc 29, type := 0, pos := "law.go:50", after := #[], guard := none }, { dst := some 6, op := Op.alloc 29, type := 0, pos := "law.go:50", after := #[], guard := none }, { dst := none, op := Op.store 29 (Operand.tmp 5) (Operand.tmp 12), type := 0, pos := "law.go:50", after := #[{ on := 4, ground := Ground.data }, { on := 1, ground := Ground.data }, { on := 3, ground := Ground.chain }, { on := 0, ground := Ground.phase }, { on := 1, ground := Ground.phase }, { on := 2, ground := Ground.textOnly Departure.lateStores }, { on := 3, ground := Ground.textOnly Departure.lateStoresUnsure }, { on := 4, ground := Ground.phase }, { on := 5, ground := Ground.phase }], guard := none }, { dst := none, op := Op.store 29 (Operand.tmp 6) (Operand.tmp 14), type := 0, pos := "law.go:50", after := #[{ on := 5, ground := Ground.data }, { on := 3, ground := Ground.data }, { on := 6, ground := Ground.chain }, { on := 0, ground := Ground.phase }, { on := 1, ground := Ground.phase }, { on := 2, ground := Ground.phase }, { on := 3, ground := Ground.phase }, { on := 4, ground := Ground.phase }, { on := 5, ground := Ground.phase }, { on := 6, ground := Ground.phase }], guard := none }] true).wp Try.prog Q0 (tt3Act X0 X1 X7 X8 X9 X10 p q (undef) (undef) (undef) (undef) (undef) (undef)) V := by
  dsimp only [tt3Act]
  have HX : Hid (∀ w', Below V.heap.size V w' → Rs w' (.agg #[.bool q0, v0, s0]) x.raw) := hide (fun w' h => hx.keep h)
  have HY : Hid (∀ w', Below V.heap.size V w' → Rs w' (.agg #[.bool q1, v1, s1]) y.raw) := hide (fun w' h => hy.keep h)
  have HS : Hid (∀ w', Below V.heap.size V w' → (w'.cell? ⟨p, 0, none⟩ = some (.bool q0) ∧ w'.cell? ⟨p, 1, none⟩ = some (v0) ∧ w'.cell? ⟨p, 2, none⟩ = some (s0) ∧ w'.cell? ⟨q, 0, none⟩ = some (.bool q1) ∧ w'.cell? ⟨q, 1, none⟩ = some (v1) ∧ w'.cell? ⟨q, 2, none⟩ = some (s1))) := hide (fun w' h => ⟨(hb3.keep h).c0, (hb3.keep h).c1, (hb3.keep h).c2, (hb4.keep h).c0, (hb4.keep h).c1, (hb4.keep h).c2⟩)
  clear hx hy hb3 hb4
  refine wp_region_held_drew (S := fun w' => w'.cell? ⟨p, 0, none⟩ = some (.bool q0) ∧ w'.cell? ⟨p, 1, none⟩ = some (v0) ∧ w'.cell? ⟨p, 2, none⟩ = some (s0) ∧ w'.cell? ⟨q, 0, none⟩ = some (.bool q1) ∧ w'.cell? ⟨q, 1, none⟩ = some (v1) ∧ w'.cell? ⟨q, 2, none⟩ = some (s1)) (by kernel_rfl) (HS.out _ (Below.refl _ _).drew) (fun hH0 => ?_)
  obtain ⟨w0, hw0⟩ : ∃ w0, w0 = V.drew := ⟨_, rfl⟩
  (try rw [← hw0] at hH0)
  rw [← hw0]
  have b0 : Hid (Below V.heap.size V w0) := hw0 ▸ hide (Below.refl _ _).drew
  clear hw0
  refine wpAnyH_take (i := 0) (oi := ({ dst := some 11, op := Op.load 25 (Operand.tmp 2), type := 25, pos := _, after := _, guard := _ } : Oper)) (v := ?_) rfl (by kernel_rfl) (by kernel_rfl) (by kernel_rfl) (fun c a w h => hP c a _ _ w h) (Or.inl ⟨by rfl, ?_⟩) (by assumption) ?_
  rotate_left
  · (intro wz hSw; (try dsimp only at hSw); go_simp; try with_reducible rfl)
  simp only [Act.put, List.setIfInBounds_toArray, List.set_cons_zero, List.set_cons_succ]
  refine wpAnyH_take (i := 2) (oi := ({ dst := some 13, op := Op.load 25 (Operand.tmp 3), type := 25, pos := _, after := _, guard := _ } : Oper)) (v := ?_) rfl (by kernel_rfl) (by kernel_rfl) (by kernel_rfl) (fun c a w h => hP c a _ _ w h) (Or.inl ⟨by rfl, ?_⟩) (by assumption) ?_
  rotate_left
  · (intro wz hSw; (try dsimp only at hSw); go_simp; try with_reducible rfl)
  simp only [Act.put, List.setIfInBounds_toArray, List.set_cons_zero, List.set_cons_succ]
  refine wpAnyH_ready (rs := [1, 4, 5]) (by kernel_rfl) (by simp) ?_
  refine AllReadyH.cons (o := ({ dst := some 12, op := Op.call { callee := Callee.value (Operand.func 11), args := #[Operand.tmp 11], argTypes := #[25] }, type := 29, pos := _, after := _, guard := _ } : Oper)) rfl (fun K hK => ?_) (AllReadyH.cons (o := ({ dst := some 5, op := Op.alloc 29, type := 0, pos := _, after := _, guard := _ } : Oper)) rfl (fun K hK => ?_) (AllReadyH.cons (o := ({ dst := some 6, op := Op.alloc 29, type := 0, pos := _, after := _, guard := _ } : Oper)) rfl (fun K hK => ?_) AllReadyH.nil))
  · go_simp
    go_at_call 11
    refine (to_R (HX.out _ b0.out) ox (by omega)).mono ?_
    rintro e1 w1 ⟨yy, rfl, hb1, hR⟩
    have b1 := hide (b0.out.trans (hb1.mono b0.out.size))
    obtain ⟨qx, xa, xn, xc, xb, xm, xd, hvj⟩ := hR.form9
    subst hvj
    have P1_1 := hR.rp (L := []) (by intro k hk; simp at hk)
    clear hR
    refine hK.out _ _ (HS.out _ b1.out) (fun hH1 => ?_)
    clear hK K hb1
    refine wpAnyH_ready (rs := [3, 4, 5]) (by kernel_rfl) (by simp) ?_
    refine AllReadyH.cons (o := ({ dst := some 14, op := Op.call { callee := Callee.value (Operand.func 11), args := #[Operand.tmp 13], argTypes := #[25] }, type := 29, pos := _, after := _, guard := _ } : Oper)) rfl (fun K hK => ?_) (AllReadyH.cons (o := ({ dst := some 5, op := Op.alloc 29, type := 0, pos := _, after := _, guard := _ } : Oper)) rfl (fun K hK => ?_) (AllReadyH.cons (o := ({ dst := some 6, op := Op.alloc 29, type := 0, pos := _, after := _, guard := _ } : Oper)) rfl (fun K hK => ?_) AllReadyH.nil))
    · go_simp
      go_at_call 11
      refine (to_R (HY.out _ b1.out) oy (by omega)).mono ?_
      rintro e2 w2 ⟨yy, rfl, hb2, hR⟩
      have b2 := hide (b1.out.trans (hb2.mono b1.out.size))
      have P1_2 := P1_1.keep hb2
      obtain ⟨qy, ya, yn, yc, yb, ym, yd, hvj⟩ := hR.form9
      subst hvj
      have P2_2 := hR.rp (L := []) (by intro k hk; simp at hk)
      clear hR
      refine hK.out _ _ (HS.out _ b2.out) (fun hH2 => ?_)
      clear hK K hb2
      refine wpAnyH_ready (rs := [4, 5]) (by kernel_rfl) (by simp) ?_
      refine AllReadyH.cons (o := ({ dst := some 5, op := Op.alloc 29, type := 0, pos := _, after := _, guard := _ } : Oper)) rfl (fun K hK => ?_) (AllReadyH.cons (o := ({ dst := some 6, op := Op.alloc 29, type := 0, pos := _, after := _, guard := _ } : Oper)) rfl (fun K hK => ?_) AllReadyH.nil)
      · go_simp
        have hb3 : Below w2.heap.size w2 (w2.alloc (.cells #[.bool false, .slice none 0 0, .slice none 0 0] 29)) := (Below.refl _ _).alloc (Nat.le_refl _) _
        have b3 := hide (b2.out.trans (hb3.mono b2.out.size))
        have P1_3 := P1_2.of (L' := [w2.heap.size]) (by intro k hk; simp at hk ⊢; omega) (fun k _ hk => hb3.block k hk)
        have P2_3 := P2_2.of (L' := [w2.heap.size]) (by intro k hk; simp at hk ⊢; omega) (fun k _ hk => hb3.block k hk)
        have K5_3 := Bs.new w2 false (.slice none 0 0) (.slice none 0 0) 29
        have F5_3 := Fs.new w2 false (.slice none 0 0) (.slice none 0 0) 29
        have nk5 := hide b2.out.size
        refine hK.out _ _ (HS.out _ b3.out) (fun hH3 => ?_)
        clear hK K hb3
        obtain ⟨w3, hw3⟩ : ∃ z9, z9 = (w2.alloc (.cells #[.bool false, .slice none 0 0, .slice none 0 0] 29)) := ⟨_, rfl⟩
        rw [← hw3] at hH3 b3 K5_3 F5_3 P1_3 P2_3 ⊢
        clear hw3
        generalize w2.heap.size = k5 at *
        refine wpAnyH_ready (rs := [5]) (by kernel_rfl) (by simp) ?_
        refine AllReadyH.cons (o := ({ dst := some 6, op := Op.alloc 29, type := 0, pos := _, after := _, guard := _ } : Oper)) rfl (fun K hK => ?_) AllReadyH.nil
        · go_simp
          have hb4 : Below w3.heap.size w3 (w3.alloc (.cells #[.bool false, .slice none 0 0, .slice none 0 0] 29)) := (Below.refl _ _).alloc (Nat.le_refl _) _
          have b4 := hide (b3.out.trans (hb4.mono b3.out.size))
          have K5_4 := K5_3.keep hb4
          have F5_4 := F5_3.of (hb4.block _ K5_3.lt)
          have P1_4 := P1_3.of (L' := [k5, w3.heap.size]) (by intro k hk; simp at hk ⊢; omega) (fun k _ hk => hb4.block k hk)
          have P2_4 := P2_3.of (L' := [k5, w3.heap.size]) (by intro k hk; simp at hk ⊢; omega) (fun k _ hk => hb4.block k hk)
          have K6_4 := Bs.new w3 false (.slice none 0 0) (.slice none 0 0) 29
          have F6_4 := Fs.new w3 false (.slice none 0 0) (.slice none 0 0) 29
          have nk6 := hide b3.out.size
          have n56 := hide (Nat.ne_of_lt K5_3.lt)
          refine hK.out _ _ (HS.out _ b4.out) (fun hH4 => ?_)
          clear hK K hb4
          obtain ⟨w4, hw4⟩ : ∃ z9, z9 = (w3.alloc (.cells #[.bool false, .slice none 0 0, .slice none 0 0] 29)) := ⟨_, rfl⟩
          rw [← hw4] at hH4 b4 K5_4 F5_4 K6_4 F6_4 P1_4 P2_4 ⊢
          clear hw4
          generalize w3.heap.size = k6 at *
          refine wpAnyH_ready (rs := [6]) (by kernel_rfl) (by simp) ?_
          refine AllReadyH.cons (o := ({ dst := none, op := Op.store 29 (Operand.tmp 5) (Operand.tmp 12), type := 0, pos := _, after := _, guard := _ } : Oper)) rfl (fun K hK => ?_) AllReadyH.nil
          · have z0 := K5_4.c0
            have z1 := K5_4.c1
            have z2 := K5_4.c2
            have y0 := F5_4.f0
            have y1 := F5_4.f1
            have y2 := F5_4.f2
            go_simp
            have K5_5 := K5_4.put3 qx (.slice xa xn xc) (.slice xb xm xd)
            have K6_5 := K6_4.far3 (p := k5) (fun e => n56.out e.symm) qx (.slice xa xn xc) (.slice xb xm xd)
            have F6_5 := F6_4.put3 (p := k5) qx (.slice xa xn xc) (.slice xb xm xd)
            have F5_5 := F5_4.put3 (p := k5) qx (.slice xa xn xc) (.slice xb xm xd)
            have P1_5 := P1_4.putL (k := k5) (by simp) qx (.slice xa xn xc) (.slice xb xm xd)
            have P2_5 := P2_4.putL (k := k5) (by simp) qx (.slice xa xn xc) (.slice xb xm xd)
            have b5 := hide (st3_below b4.out k5 nk5.out qx (.slice xa xn xc) (.slice xb xm xd))
            unfold st3 at K5_5 K6_5 F5_5 F6_5 P1_5 P2_5 b5
            refine hK.out _ _ (HS.out _ b5.out) (fun hH5 => ?_)
            clear hK K z0 z1 z2 y0 y1 y2
            obtain ⟨w5, hw5⟩ : ∃ z9, z9 = ((w4.setCell ⟨k5, 0, none⟩ (.bool qx)).setCell ⟨k5, 1, none⟩ (.slice xa xn xc)).setCell ⟨k5, 2, none⟩ (.slice xb xm xd) := ⟨_, rfl⟩
            rw [← hw5] at hH5 b5 K5_5 K6_5 F5_5 F6_5 P1_5 P2_5 ⊢
            clear hw5
            refine wpAnyH_ready (rs := [7]) (by kernel_rfl) (by simp) ?_
            refine AllReadyH.cons (o := ({ dst := none, op := Op.store 29 (Operand.tmp 6) (Operand.tmp 14), type := 0, pos := _, after := _, guard := _ } : Oper)) rfl (fun K hK => ?_) AllReadyH.nil
            · have z0 := K6_5.c0
              have z1 := K6_5.c1
              have z2 := K6_5.c2
              have y0 := F6_5.f0
              have y1 := F6_5.f1
              have y2 := F6_5.f2
              go_simp
              have K6_6 := K6_5.put3 qy (.slice ya yn yc) (.slice yb ym yd)
              have K5_6 := K5_5.far3 (p := k6) n56.out qy (.slice ya yn yc) (.slice yb ym yd)
              have F5_6 := F5_5.put3 (p := k6) qy (.slice ya yn yc) (.slice yb ym yd)
              have F6_6 := F6_5.put3 (p := k6) qy (.slice ya yn yc) (.slice yb ym yd)
              have P1_6 := P1_5.putL (k := k6) (by simp) qy (.slice ya yn yc) (.slice yb ym yd)
              have P2_6 := P2_5.putL (k := k6) (by simp) qy (.slice ya yn yc) (.slice yb ym yd)
              have b6 := hide (st3_below b5.out k6 nk6.out qy (.slice ya yn yc) (.slice yb ym yd))
              unfold st3 at K5_6 K6_6 F5_6 F6_6 P1_6 P2_6 b6
              refine hK.out _ _ (HS.out _ b6.out) (fun hH6 => ?_)
              clear hK K z0 z1 z2 y0 y1 y2
              obtain ⟨w6, hw6⟩ : ∃ z9, z9 = ((w5.setCell ⟨k6, 0, none⟩ (.bool qy)).setCell ⟨k6, 1, none⟩ (.slice ya yn yc)).setCell ⟨k6, 2, none⟩ (.slice yb ym yd) := ⟨_, rfl⟩
              rw [← hw6] at hH6 b6 K5_6 K6_6 F5_6 F6_6 P1_6 P2_6 ⊢
              clear hw6
              refine wpAnyH_done (by kernel_rfl) ?_ _
              exact hQ _ _ _ _ _ _ _ _ _ _ _ _ _ _ _ _ _ K5_6 K6_6 P1_6.rs P2_6.rs b6.out
      · go_simp
        have hb3 : Below w2.heap.size w2 (w2.alloc (.cells #[.bool false, .slice none 0 0, .slice none 0 0] 29)) := (Below.refl _ _).alloc (Nat.le_refl _) _
        have b3 := hide (b2.out.trans (hb3.mono b2.out.size))
        have P1_3 := P1_2.of (L' := [w2.heap.size]) (by intro k hk; simp at hk ⊢; omega) (fun k _ hk => hb3.block k hk)
        have P2_3 := P2_2.of (L' := [w2.heap.size]) (by intro k hk; simp at hk ⊢; omega) (fun k _ hk => hb3.block k hk)
        have K6_3 := Bs.new w2 false (.slice none 0 0) (.slice none 0 0) 29
        have F6_3 := Fs.new w2 false (.slice none 0 0) (.slice none 0 0) 29
        have nk6 := hide b2.out.size
        refine hK.out _ _ (HS.out _ b3.out) (fun hH3 => ?_)
        clear hK K hb3
        obtain ⟨w3, hw3⟩ : ∃ z9, z9 = (w2.alloc (.cells #[.bool false, .slice none 0 0, .slice none 0 0] 29)) := ⟨_, rfl⟩
        rw [← hw3] at hH3 b3 K6_3 F6_3 P1_3 P2_3 ⊢
        clear hw3
        generalize w2.heap.size = k6 at *
        refine wpAnyH_ready (rs := [4]) (by kernel_rfl) (by simp) ?_
        refine AllReadyH.cons (o := ({ dst := some 5, op := Op.alloc 29, type := 0, pos := _, after := _, guard := _ } : Oper)) rfl (fun K hK => ?_) AllReadyH.nil
        · go_simp
          have hb4 : Below w3.heap.size w3 (w3.alloc (.cells #[.bool false, .slice none 0 0, .slice none 0 0] 29)) := (Below.refl _ _).alloc (Nat.le_refl _) _
          have b4 := hide (b3.out.trans (hb4.mono b3.out.size))
          have K6_4 := K6_3.keep hb4
          have F6_4 := F6_3.of (hb4.block _ K6_3.lt)
          have P1_4 := P1_3.of (L' := [w3.heap.size, k6]) (by intro k hk; simp at hk ⊢; omega) (fun k _ hk => hb4.block k hk)
          have P2_4 := P2_3.of (L' := [w3.heap.size, k6]) (by intro k hk; simp at hk ⊢; omega) (fun k _ hk => hb4.block k hk)
          have K5_4 := Bs.new w3 false (.slice none 0 0) (.slice none 0 0) 29
          have F5_4 := Fs.new w3 false (.slice none 0 0) (.slice none 0 0) 29
          have nk5 := hide b3.out.size
          have n56 := hide (Nat.ne_of_gt K6_3.lt)
          refine hK.out _ _ (HS.out _ b4.out) (fun hH4 => ?_)
          clear hK K hb4
          obtain ⟨w4, hw4⟩ : ∃ z9, z9 = (w3.alloc (.cells #[.bool false, .slice none 0 0, .slice none 0 0] 29)) := ⟨_, rfl⟩
          rw [← hw4] at hH4 b4 K5_4 F5_4 K6_4 F6_4 P1_4 P2_4 ⊢
          clear hw4
          generalize w3.heap.size = k5 at *
          refine wpAnyH_ready (rs := [6]) (by kernel_rfl) (by simp) ?_
          refine AllReadyH.cons (o := ({ dst := none, op := Op.store 29 (Operand.tmp 5) (Operand.tmp 12), type := 0, pos := _, after := _, guard := _ } : Oper)) rfl (fun K hK => ?_) AllReadyH.nil
          · have z0 := K5_4.c0
            have z1 := K5_4.c1
            have z2 := K5_4.c2
            have y0 := F5_4.f0
            have y1 := F5_4.f1
            have y2 := F5_4.f2
            go_simp
            have K5_5 := K5_4.put3 qx (.slice xa xn xc) (.slice xb xm xd)
            have K6_5 := K6_4.far3 (p := k5) (fun e => n56.out e.symm) qx (.slice xa xn xc) (.slice xb xm xd)
            have F6_5 := F6_4.put3 (p := k5) qx (.slice xa xn xc) (.slice xb xm xd)
            have F5_5 := F5_4.put3 (p := k5) qx (.slice xa xn xc) (.slice xb xm xd)
            have P1_5 := P1_4.putL (k := k5) (by simp) qx (.slice xa xn xc) (.slice xb xm xd)
            have P2_5 := P2_4.putL (k := k5) (by simp) qx (.slice xa xn xc) (.slice xb xm xd)
            have b5 := hide (st3_below b4.out k5 nk5.out qx (.slice xa xn xc) (.slice xb xm xd))
            unfold st3 at K5_5 K6_5 F5_5 F6_5 P1_5 P2_5 b5
            refine hK.out _ _ (HS.out _ b5.out) (fun hH5 => ?_)
            clear hK K z0 z1 z2 y0 y1 y2
            obtain ⟨w5, hw5⟩ : ∃ z9, z9 = ((w4.setCell ⟨k5, 0, none⟩ (.bool qx)).setCell ⟨k5, 1, none⟩ (.slice xa xn xc)).setCell ⟨k5, 2, none⟩ (.slice xb xm xd) := ⟨_, rfl⟩
            rw [← hw5] at hH5 b5 K5_5 K6_5 F5_5 F6_5 P1_5 P2_5 ⊢
            clear hw5
            refine wpAnyH_ready (rs := [7]) (by kernel_rfl) (by simp) ?_
            refine AllReadyH.cons (o := ({ dst := none, op := Op.store 29 (Operand.tmp 6) (Operand.tmp 14), type := 0, pos := _, after := _, guard := _ } : Oper)) rfl (fun K hK => ?_) AllReadyH.nil
            · have z0 := K6_5.c0
              have z1 := K6_5.c1
              have z2 := K6_5.c2
              have y0 := F6_5.f0
              have y1 := F6_5.f1
              have y2 := F6_5.f2
              go_simp
              have K6_6 := K6_5.put3 qy (.slice ya yn yc) (.slice yb ym yd)
              have K5_6 := K5_5.far3 (p := k6) n56.out qy (.slice ya yn yc) (.slice yb ym yd)
              have F5_6 := F5_5.put3 (p := k6) qy (.slice ya yn yc) (.slice yb ym yd)
              have F6_6 := F6_5.put3 (p := k6) qy (.slice ya yn yc) (.slice yb ym yd)
              have P1_6 := P1_5.putL (k := k6) (by simp) qy (.slice ya yn yc) (.slice yb ym yd)
              have P2_6 := P2_5.putL (k := k6) (by simp) qy (.slice ya yn yc) (.slice yb ym yd)
              have b6 := hide (st3_below b5.out k6 nk6.out qy (.slice ya yn yc) (.slice yb ym yd))
              unfold st3 at K5_6 K6_6 F5_6 F6_6 P1_6 P2_6 b6
              refine hK.out _ _ (HS.out _ b6.out) (fun hH6 => ?_)
              clear hK K z0 z1 z2 y0 y1 y2
              obtain ⟨w6, hw6⟩ : ∃ z9, z9 = ((w5.setCell ⟨k6, 0, none⟩ (.bool qy)).setCell ⟨k6, 1, none⟩ (.slice ya yn yc)).setCell ⟨k6, 2, none⟩ (.slice yb ym yd) := ⟨_, rfl⟩
              rw [← hw6] at hH6 b6 K5_6 K6_6 F5_6 F6_6 P1_6 P2_6 ⊢
              clear hw6
              refine wpAnyH_done (by kernel_rfl) ?_ _
              exact hQ _ _ _ _ _ _ _ _ _ _ _ _ _ _ _ _ _ K5_6 K6_6 P1_6.rs P2_6.rs b6.out
    · go_simp
      have hb2 : Below w1.heap.size w1 (w1.alloc (.cells #[.bool false, .slice none 0 0, .slice none 0 0] 29)) := (Below.refl _ _).alloc (Nat.le_refl _) _
      have b2 := hide (b1.out.trans (hb2.mono b1.out.size))
      have P1_2 := P1_1.of (L' := [w1.heap.size]) (by intro k hk; simp at hk ⊢; omega) (fun k _ hk => hb2.block k hk)
      have K5_2 := Bs.new w1 false (.slice none 0 0) (.slice none 0 0) 29
      have F5_2 := Fs.new w1 false (.slice none 0 0) (.slice none 0 0) 29
      have nk5 := hide b1.out.size
      refine hK.out _ _ (HS.out _ b2.out) (fun hH2 => ?_)
      clear hK K hb2
      obtain ⟨w2, hw2⟩ : ∃ z9, z9 = (w1.alloc (.cells #[.bool false, .slice none 0 0, .slice none 0 0] 29)) := ⟨_, rfl⟩
      rw [← hw2] at hH2 b2 K5_2 F5_2 P1_2 ⊢
      clear hw2
      generalize w1.heap.size = k5 at *
      refine wpAnyH_ready (rs := [3, 5]) (by kernel_rfl) (by simp) ?_
      refine AllReadyH.cons (o := ({ dst := some 14, op := Op.call { callee := Callee.value (Operand.func 11), args := #[Operand.tmp 13], argTypes := #[25] }, type := 29, pos := _, after := _, guard := _ } : Oper)) rfl (fun K hK => ?_) (AllReadyH.cons (o := ({ dst := some 6, op := Op.alloc 29, type := 0, pos := _, after := _, guard := _ } : Oper)) rfl (fun K hK => ?_) AllReadyH.nil)
      · go_simp
        go_at_call 11
        refine (to_R (HY.out _ b2.out) oy (by omega)).mono ?_
        rintro e2 w3 ⟨yy, rfl, hb3, hR⟩
        have b3 := hide (b2.out.trans (hb3.mono b2.out.size))
        have K5_3 := K5_2.keep hb3
        have F5_3 := F5_2.of (hb3.block _ K5_2.lt)
        have P1_3 := P1_2.keep hb3
        obtain ⟨qy, ya, yn, yc, yb, ym, yd, hvj⟩ := hR.form9
        subst hvj
        have P2_3 := hR.rp (L := [k5]) (by have z5 := K5_2.lt; intro k hk; simp at hk; omega)
        clear hR
        refine hK.out _ _ (HS.out _ b3.out) (fun hH3 => ?_)
        clear hK K hb3
        refine wpAnyH_ready (rs := [5]) (by kernel_rfl) (by simp) ?_
        refine AllReadyH.cons (o := ({ dst := some 6, op := Op.alloc 29, type := 0, pos := _, after := _, guard := _ } : Oper)) rfl (fun K hK => ?_) AllReadyH.nil
        · go_simp
          have hb4 : Below w3.heap.size w3 (w3.alloc (.cells #[.bool false, .slice none 0 0, .slice none 0 0] 29)) := (Below.refl _ _).alloc (Nat.le_refl _) _
          have b4 := hide (b3.out.trans (hb4.mono b3.out.size))
          have K5_4 := K5_3.keep hb4
          have F5_4 := F5_3.of (hb4.block _ K5_3.lt)
          have P1_4 := P1_3.of (L' := [k5, w3.heap.size]) (by intro k hk; simp at hk ⊢; omega) (fun k _ hk => hb4.block k hk)
          have P2_4 := P2_3.of (L' := [k5, w3.heap.size]) (by intro k hk; simp at hk ⊢; omega) (fun k _ hk => hb4.block k hk)
          have K6_4 := Bs.new w3 false (.slice none 0 0) (.slice none 0 0) 29
          have F6_4 := Fs.new w3 false (.slice none 0 0) (.slice none 0 0) 29
          have nk6 := hide b3.out.size
          have n56 := hide (Nat.ne_of_lt K5_3.lt)
          refine hK.out _ _ (HS.out _ b4.out) (fun hH4 => ?_)
          clear hK K hb4
          obtain ⟨w4, hw4⟩ : ∃ z9, z9 = (w3.alloc (.cells #[.bool false, .slice none 0 0, .slice none 0 0] 29)) := ⟨_, rfl⟩
          rw [← hw4] at hH4 b4 K5_4 F5_4 K6_4 F6_4 P1_4 P2_4 ⊢
          clear hw4
          generalize w3.heap.size = k6 at *
          refine wpAnyH_ready (rs := [6]) (by kernel_rfl) (by simp) ?_
          refine AllReadyH.cons (o := ({ dst := none, op := Op.store 29 (Operand.tmp 5) (Operand.tmp 12), type := 0, pos := _, after := _, guard := _ } : Oper)) rfl (fun K hK => ?_) AllReadyH.nil
          · have z0 := K5_4.c0
            have z1 := K5_4.c1
            have z2 := K5_4.c2
            have y0 := F5_4.f0
            have y1 := F5_4.f1
            have y2 := F5_4.f2
            go_simp
            have K5_5 := K5_4.put3 qx (.slice xa xn xc) (.slice xb xm xd)
            have K6_5 := K6_4.far3 (p := k5) (fun e => n56.out e.symm) qx (.slice xa xn xc) (.slice xb xm xd)
            have F6_5 := F6_4.put3 (p := k5) qx (.slice xa xn xc) (.slice xb xm xd)
            have F5_5 := F5_4.put3 (p := k5) qx (.slice xa xn xc) (.slice xb xm xd)
            have P1_5 := P1_4.putL (k := k5) (by simp) qx (.slice xa xn xc) (.slice xb xm xd)
            have P2_5 := P2_4.putL (k := k5) (by simp) qx (.slice xa xn xc) (.slice xb xm xd)
            have b5 := hide (st3_below b4.out k5 nk5.out qx (.slice xa xn xc) (.slice xb xm xd))
            unfold st3 at K5_5 K6_5 F5_5 F6_5 P1_5 P2_5 b5
            refine hK.out _ _ (HS.out _ b5.out) (fun hH5 => ?_)
            clear hK K z0 z1 z2 y0 y1 y2
            obtain ⟨w5, hw5⟩ : ∃ z9, z9 = ((w4.setCell ⟨k5, 0, none⟩ (.bool qx)).setCell ⟨k5, 1, none⟩ (.slice xa xn xc)).setCell ⟨k5, 2, none⟩ (.slice xb xm xd) := ⟨_, rfl⟩
            rw [← hw5] at hH5 b5 K5_5 K6_5 F5_5 F6_5 P1_5 P2_5 ⊢
            clear hw5
            refine wpAnyH_ready (rs := [7]) (by kernel_rfl) (by simp) ?_
            refine AllReadyH.cons (o := ({ dst := none, op := Op.store 29 (Operand.tmp 6) (Operand.tmp 14), type := 0, pos := _, after := _, guard := _ } : Oper)) rfl (fun K hK => ?_) AllReadyH.nil
            · have z0 := K6_5.c0
              have z1 := K6_5.c1
              have z2 := K6_5.c2
              have y0 := F6_5.f0
              have y1 := F6_5.f1
              have y2 := F6_5.f2
              go_simp
              have K6_6 := K6_5.put3 qy (.slice ya yn yc) (.slice yb ym yd)
              have K5_6 := K5_5.far3 (p := k6) n56.out qy (.slice ya yn yc) (.slice yb ym yd)
              have F5_6 := F5_5.put3 (p := k6) qy (.slice ya yn yc) (.slice yb ym yd)
              have F6_6 := F6_5.put3 (p := k6) qy (.slice ya yn yc) (.slice yb ym yd)
              have P1_6 := P1_5.putL (k := k6) (by simp) qy (.slice ya yn yc) (.slice yb ym yd)
              have P2_6 := P2_5.putL (k := k6) (by simp) qy (.slice ya yn yc) (.slice yb ym yd)
              have b6 := hide (st3_below b5.out k6 nk6.out qy (.slice ya yn yc) (.slice yb ym yd))
              unfold st3 at K5_6 K6_6 F5_6 F6_6 P1_6 P2_6 b6
              refine hK.out _ _ (HS.out _ b6.out) (fun hH6 => ?_)
              clear hK K z0 z1 z2 y0 y1 y2
              obtain ⟨w6, hw6⟩ : ∃ z9, z9 = ((w5.setCell ⟨k6, 0, none⟩ (.bool qy)).setCell ⟨k6, 1, none⟩ (.slice ya yn yc)).setCell ⟨k6, 2, none⟩ (.slice yb ym yd) := ⟨_, rfl⟩
              rw [← hw6] at hH6 b6 K5_6 K6_6 F5_6 F6_6 P1_6 P2_6 ⊢
              clear hw6
              refine wpAnyH_done (by kernel_rfl) ?_ _
              exact hQ _ _ _ _ _ _ _ _ _ _ _ _ _ _ _ _ _ K5_6 K6_6 P1_6.rs P2_6.rs b6.out
      · go_simp
        have hb3 : Below w2.heap.size w2 (w2.alloc (.cells #[.bool false, .slice none 0 0, .slice none 0 0] 29)) := (Below.refl _ _).alloc (Nat.le_refl _) _
        have b3 := hide (b2.out.trans (hb3.mono b2.out.size))
        have K5_3 := K5_2.keep hb3
        have F5_3 := F5_2.of (hb3.block _ K5_2.lt)
        have P1_3 := P1_2.of (L' := [k5, w2.heap.size]) (by intro k hk; simp at hk ⊢; omega) (fun k _ hk => hb3.block k hk)
        have K6_3 := Bs.new w2 false (.slice none 0 0) (.slice none 0 0) 29
        have F6_3 := Fs.new w2 false (.slice none 0 0) (.slice none 0 0) 29
        have nk6 := hide b2.out.size
        have n56 := hide (Nat.ne_of_lt K5_2.lt)
        refine hK.out _ _ (HS.out _ b3.out) (fun hH3 => ?_)
        clear hK K hb3
        obtain ⟨w3, hw3⟩ : ∃ z9, z9 = (w2.alloc (.cells #[.bool false, .slice none 0 0, .slice none 0 0] 29)) := ⟨_, rfl⟩
        rw [← hw3] at hH3 b3 K5_3 F5_3 K6_3 F6_3 P1_3 ⊢
        clear hw3
        generalize w2.heap.size = k6 at *
        refine wpAnyH_ready (rs := [3]) (by kernel_rfl) (by simp) ?_
        refine AllReadyH.cons (o := ({ dst := some 14, op := Op.call { callee := Callee.value (Operand.func 11), args := #[Operand.tmp 13], argTypes := #[25] }, type := 29, pos := _, after := _, guard := _ } : Oper)) rfl (fun K hK => ?_) AllReadyH.nil
        · go_simp
          go_at_call 11
          refine (to_R (HY.out _ b3.out) oy (by omega)).mono ?_
          rintro e2 w4 ⟨yy, rfl, hb4, hR⟩
          have b4 := hide (b3.out.trans (hb4.mono b3.out.size))
          have K5_4 := K5_3.keep hb4
          have F5_4 := F5_3.of (hb4.block _ K5_3.lt)
          have K6_4 := K6_3.keep hb4
          have F6_4 := F6_3.of (hb4.block _ K6_3.lt)
          have P1_4 := P1_3.keep hb4
          obtain ⟨qy, ya, yn, yc, yb, ym, yd, hvj⟩ := hR.form9
          subst hvj
          have P2_4 := hR.rp (L := [k5, k6]) (by have z5 := K5_3.lt; have z6 := K6_3.lt; intro k hk; simp at hk; omega)
          clear hR
          refine hK.out _ _ (HS.out _ b4.out) (fun hH4 => ?_)
          clear hK K hb4
          refine wpAnyH_ready (rs := [6]) (by kernel_rfl) (by simp) ?_
          refine AllReadyH.cons (o := ({ dst := none, op := Op.store 29 (Operand.tmp 5) (Operand.tmp 12), type := 0, pos := _, after := _, guard := _ } : Oper)) rfl (fun K hK => ?_) AllReadyH.nil
          · have z0 := K5_4.c0
            have z1 := K5_4.c1
            have z2 := K5_4.c2
            have y0 := F5_4.f0
            have y1 := F5_4.f1
            have y2 := F5_4.f2
            go_simp
            have K5_5 := K5_4.put3 qx (.slice xa xn xc) (.slice xb xm xd)
            have K6_5 := K6_4.far3 (p := k5) (fun e => n56.out e.symm) qx (.slice xa xn xc) (.slice xb xm xd)
            have F6_5 := F6_4.put3 (p := k5) qx (.slice xa xn xc) (.slice xb xm xd)
            have F5_5 := F5_4.put3 (p := k5) qx (.slice xa xn xc) (.slice xb xm xd)
            have P1_5 := P1_4.putL (k := k5) (by simp) qx (.slice xa xn xc) (.slice xb xm xd)
            have P2_5 := P2_4.putL (k := k5) (by simp) qx (.slice xa xn xc) (.slice xb xm xd)
            have b5 := hide (st3_below b4.out k5 nk5.out qx (.slice xa xn xc) (.slice xb xm xd))
            unfold st3 at K5_5 K6_5 F5_5 F6_5 P1_5 P2_5 b5
            refine hK.out _ _ (HS.out _ b5.out) (fun hH5 => ?_)
            clear hK K z0 z1 z2 y0 y1 y2
            obtain ⟨w5, hw5⟩ : ∃ z9, z9 = ((w4.setCell ⟨k5, 0, none⟩ (.bool qx)).setCell ⟨k5, 1, none⟩ (.slice xa xn xc)).setCell ⟨k5, 2, none⟩ (.slice xb xm xd) := ⟨_, rfl⟩
            rw [← hw5] at hH5 b5 K5_5 K6_5 F5_5 F6_5 P1_5 P2_5 ⊢
            clear hw5
            refine wpAnyH_ready (rs := [7]) (by kernel_rfl) (by simp) ?_
            refine AllReadyH.cons (o := ({ dst := none, op := Op.store 29 (Operand.tmp 6) (Operand.tmp 14), type := 0, pos := _, after := _, guard := _ } : Oper)) rfl (fun K hK => ?_) AllReadyH.nil
            · have z0 := K6_5.c0
              have z1 := K6_5.c1
              have z2 := K6_5.c2
              have y0 := F6_5.f0
              have y1 := F6_5.f1
              have y2 := F6_5.f2
              go_simp
              have K6_6 := K6_5.put3 qy (.slice ya yn yc) (.slice yb ym yd)
              have K5_6 := K5_5.far3 (p := k6) n56.out qy (.slice ya yn yc) (.slice yb ym yd)
              have F5_6 := F5_5.put3 (p := k6) qy (.slice ya yn yc) (.slice yb ym yd)
              have F6_6 := F6_5.put3 (p := k6) qy (.slice ya yn yc) (.slice yb ym yd)
              have P1_6 := P1_5.putL (k := k6) (by simp) qy (.slice ya yn yc) (.slice yb ym yd)
              have P2_6 := P2_5.putL (k := k6) (by simp) qy (.slice ya yn yc) (.slice yb ym yd)
              have b6 := hide (st3_below b5.out k6 nk6.out qy (.slice ya yn yc) (.slice yb ym yd))
              unfold st3 at K5_6 K6_6 F5_6 F6_6 P1_6 P2_6 b6
              refine hK.out _ _ (HS.out _ b6.out) (fun hH6 => ?_)
              clear hK K z0 z1 z2 y0 y1 y2
              obtain ⟨w6, hw6⟩ : ∃ z9, z9 = ((w5.setCell ⟨k6, 0, none⟩ (.bool qy)).setCell ⟨k6, 1, none⟩ (.slice ya yn yc)).setCell ⟨k6, 2, none⟩ (.slice yb ym yd) := ⟨_, rfl⟩
              rw [← hw6] at hH6 b6 K5_6 K6_6 F5_6 F6_6 P1_6 P2_6 ⊢
              clear hw6
              refine wpAnyH_done (by kernel_rfl) ?_ _
              exact hQ _ _ _ _ _ _ _ _ _ _ _ _ _ _ _ _ _ K5_6 K6_6 P1_6.rs P2_6.rs b6.out
    · go_simp
      have hb2 : Below w1.heap.size w1 (w1.alloc (.cells #[.bool false, .slice none 0 0, .slice none 0 0] 29)) := (Below.refl _ _).alloc (Nat.le_refl _) _
      have b2 := hide (b1.out.trans (hb2.mono b1.out.size))
      have P1_2 := P1_1.of (L' := [w1.heap.size]) (by intro k hk; simp at hk ⊢; omega) (fun k _ hk => hb2.block k hk)
      have K6_2 := Bs.new w1 false (.slice none 0 0) (.slice none 0 0) 29
      have F6_2 := Fs.new w1 false (.slice none 0 0) (.slice none 0 0) 29
      have nk6 := hide b1.out.size
      refine hK.out _ _ (HS.out _ b2.out) (fun hH2 => ?_)
      clear hK K hb2
      obtain ⟨w2, hw2⟩ : ∃ z9, z9 = (w1.alloc (.cells #[.bool false, .slice none 0 0, .slice none 0 0] 29)) := ⟨_, rfl⟩
      rw [← hw2] at hH2 b2 K6_2 F6_2 P1_2 ⊢
      clear hw2
      generalize w1.heap.size = k6 at *
      refine wpAnyH_ready (rs := [3, 4]) (by kernel_rfl) (by simp) ?_
      refine AllReadyH.cons (o := ({ dst := some 14, op := Op.call { callee := Callee.value (Operand.func 11), args := #[Operand.tmp 13], argTypes := #[25] }, type := 29, pos := _, after := _, guard := _ } : Oper)) rfl (fun K hK => ?_) (AllReadyH.cons (o := ({ dst := some 5, op := Op.alloc 29, type := 0, pos := _, after := _, guard := _ } : Oper)) rfl (fun K hK => ?_) AllReadyH.nil)
      · go_simp
        go_at_call 11
        refine (to_R (HY.out _ b2.out) oy (by omega)).mono ?_
        rintro e2 w3 ⟨yy, rfl, hb3, hR⟩
        have b3 := hide (b2.out.trans (hb3.mono b2.out.size))
        have K6_3 := K6_2.keep hb3
        have F6_3 := F6_2.of (hb3.block _ K6_2.lt)
        have P1_3 := P1_2.keep hb3
        obtain ⟨qy, ya, yn, yc, yb, ym, yd, hvj⟩ := hR.form9
        subst hvj
        have P2_3 := hR.rp (L := [k6]) (by have z6 := K6_2.lt; intro k hk; simp at hk; omega)
        clear hR
        refine hK.out _ _ (HS.out _ b3.out) (fun hH3 => ?_)
        clear hK K hb3
        refine wpAnyH_ready (rs := [4]) (by kernel_rfl) (by simp) ?_
        refine AllReadyH.cons (o := ({ dst := some 5, op := Op.alloc 29, type := 0, pos := _, after := _, guard := _ } : Oper)) rfl (fun K hK => ?_) AllReadyH.nil
        · go_simp
          have hb4 : Below w3.heap.size w3 (w3.alloc (.cells #[.bool false, .slice none 0 0, .slice none 0 0] 29)) := (Below.refl _ _).alloc (Nat.le_refl _) _
          have b4 := hide (b3.out.trans (hb4.mono b3.out.size))
          have K6_4 := K6_3.keep hb4
          have F6_4 := F6_3.of (hb4.block _ K6_3.lt)
          have P1_4 := P1_3.of (L' := [w3.heap.size, k6]) (by intro k hk; simp at hk ⊢; omega) (fun k _ hk => hb4.block k hk)
          have P2_4 := P2_3.of (L' := [w3.heap.size, k6]) (by intro k hk; simp at hk ⊢; omega) (fun k _ hk => hb4.block k hk)
          have K5_4 := Bs.new w3 false (.slice none 0 0) (.slice none 0 0) 29
          have F5_4 := Fs.new w3 false (.slice none 0 0) (.slice none 0 0) 29
          have nk5 := hide b3.out.size
          have n56 := hide (Nat.ne_of_gt K6_3.lt)
          refine hK.out _ _ (HS.out _ b4.out) (fun hH4 => ?_)
          clear hK K hb4
          obtain ⟨w4, hw4⟩ : ∃ z9, z9 = (w3.alloc (.cells #[.bool false, .slice none 0 0, .slice none 0 0] 29)) := ⟨_, rfl⟩
          rw [← hw4] at hH4 b4 K5_4 F5_4 K6_4 F6_4 P1_4 P2_4 ⊢
          clear hw4
          generalize w3.heap.size = k5 at *
          refine wpAnyH_ready (rs := [6]) (by kernel_rfl) (by simp) ?_
          refine AllReadyH.cons (o := ({ dst := none, op := Op.store 29 (Operand.tmp 5) (Operand.tmp 12), type := 0, pos := _, after := _, guard := _ } : Oper)) rfl (fun K hK => ?_) AllReadyH.nil
          · have z0 := K5_4.c0
            have z1 := K5_4.c1
            have z2 := K5_4.c2
            have y0 := F5_4.f0
            have y1 := F5_4.f1
            have y2 := F5_4.f2
            go_simp
            have K5_5 := K5_4.put3 qx (.slice xa xn xc) (.slice xb xm xd)
            have K6_5 := K6_4.far3 (p := k5) (fun e => n56.out e.symm) qx (.slice xa xn xc) (.slice xb xm xd)
            have F6_5 := F6_4.put3 (p := k5) qx (.slice xa xn xc) (.slice xb xm xd)
            have F5_5 := F5_4.put3 (p := k5) qx (.slice xa xn xc) (.slice xb xm xd)
            have P1_5 := P1_4.putL (k := k5) (by simp) qx (.slice xa xn xc) (.slice xb xm xd)
            have P2_5 := P2_4.putL (k := k5) (by simp) qx (.slice xa xn xc) (.slice xb xm xd)
            have b5 := hide (st3_below b4.out k5 nk5.out qx (.slice xa xn xc) (.slice xb xm xd))
            unfold st3 at K5_5 K6_5 F5_5 F6_5 P1_5 P2_5 b5
            refine hK.out _ _ (HS.out _ b5.out) (fun hH5 => ?_)
            clear hK K z0 z1 z2 y0 y1 y2
            obtain ⟨w5, hw5⟩ : ∃ z9, z9 = ((w4.setCell ⟨k5, 0, none⟩ (.bool qx)).setCell ⟨k5, 1, none⟩ (.slice xa xn xc)).setCell ⟨k5, 2, none⟩ (.slice xb xm xd) := ⟨_, rfl⟩
            rw [← hw5] at hH5 b5 K5_5 K6_5 F5_5 F6_5 P1_5 P2_5 ⊢
            clear hw5
            refine wpAnyH_ready (rs := [7]) (by kernel_rfl) (by simp) ?_
            refine AllReadyH.cons (o := ({ dst := none, op := Op.store 29 (Operand.tmp 6) (Operand.tmp 14), type := 0, pos := _, after := _, guard := _ } : Oper)) rfl (fun K hK => ?_) AllReadyH.nil
            · have z0 := K6_5.c0
              have z1 := K6_5.c1
              have z2 := K6_5.c2
              have y0 := F6_5.f0
              have y1 := F6_5.f1
              have y2 := F6_5.f2
              go_simp
              have K6_6 := K6_5.put3 qy (.slice ya yn yc) (.slice yb ym yd)
              have K5_6 := K5_5.far3 (p := k6) n56.out qy (.slice ya yn yc) (.slice yb ym yd)
              have F5_6 := F5_5.put3 (p := k6) qy (.slice ya yn yc) (.slice yb ym yd)
              have F6_6 := F6_5.put3 (p := k6) qy (.slice ya yn yc) (.slice yb ym yd)
              have P1_6 := P1_5.putL (k := k6) (by simp) qy (.slice ya yn yc) (.slice yb ym yd)
              have P2_6 := P2_5.putL (k := k6) (by simp) qy (.slice ya yn yc) (.slice yb ym yd)
              have b6 := hide (st3_below b5.out k6 nk6.out qy (.slice ya yn yc) (.slice yb ym yd))
              unfold st3 at K5_6 K6_6 F5_6 F6_6 P1_6 P2_6 b6
              refine hK.out _ _ (HS.out _ b6.out) (fun hH6 => ?_)
              clear hK K z0 z1 z2 y0 y1 y2
              obtain ⟨w6, hw6⟩ : ∃ z9, z9 = ((w5.setCell ⟨k6, 0, none⟩ (.bool qy)).setCell ⟨k6, 1, none⟩ (.slice ya yn yc)).setCell ⟨k6, 2, none⟩ (.slice yb ym yd) := ⟨_, rfl⟩
              rw [← hw6] at hH6 b6 K5_6 K6_6 F5_6 F6_6 P1_6 P2_6 ⊢
              clear hw6
              refine wpAnyH_done (by kernel_rfl) ?_ _
              exact hQ _ _ _ _ _ _ _ _ _ _ _ _ _ _ _ _ _ K5_6 K6_6 P1_6.rs P2_6.rs b6.out
      · go_simp
        have hb3 : Below w2.heap.size w2 (w2.alloc (.cells #[.bool false, .slice none 0 0, .slice none 0 0] 29)) := (Below.refl _ _).alloc (Nat.le_refl _) _
        have b3 := hide (b2.out.trans (hb3.mono b2.out.size))
        have K6_3 := K6_2.keep hb3
        have F6_3 := F6_2.of (hb3.block _ K6_2.lt)
        have P1_3 := P1_2.of (L' := [w2.heap.size, k6]) (by intro k hk; simp at hk ⊢; omega) (fun k _ hk => hb3.block k hk)
        have K5_3 := Bs.new w2 false (.slice none 0 0) (.slice none 0 0) 29
        have F5_3 := Fs.new w2 false (.slice none 0 0) (.slice none 0 0) 29
        have nk5 := hide b2.out.size
        have n56 := hide (Nat.ne_of_gt K6_2.lt)
        refine hK.out _ _ (HS.out _ b3.out) (fun hH3 => ?_)
        clear hK K hb3
        obtain ⟨w3, hw3⟩ : ∃ z9, z9 = (w2.alloc (.cells #[.bool false, .slice none 0 0, .slice none 0 0] 29)) := ⟨_, rfl⟩
        rw [← hw3] at hH3 b3 K5_3 F5_3 K6_3 F6_3 P1_3 ⊢
        clear hw3
        generalize w2.heap.size = k5 at *
        refine wpAnyH_ready (rs := [3]) (by kernel_rfl) (by simp) ?_
        refine AllReadyH.cons (o := ({ dst := some 14, op := Op.call { callee := Callee.value (Operand.func 11), args := #[Operand.tmp 13], argTypes := #[25] }, type := 29, pos := _, after := _, guard := _ } : Oper)) rfl (fun K hK => ?_) AllReadyH.nil
        · go_simp
          go_at_call 11
          refine (to_R (HY.out _ b3.out) oy (by omega)).mono ?_
          rintro e2 w4 ⟨yy, rfl, hb4, hR⟩
          have b4 := hide (b3.out.trans (hb4.mono b3.out.size))
          have K5_4 := K5_3.keep hb4
          have F5_4 := F5_3.of (hb4.block _ K5_3.lt)
          have K6_4 := K6_3.keep hb4
          have F6_4 := F6_3.of (hb4.block _ K6_3.lt)
          have P1_4 := P1_3.keep hb4
          obtain ⟨qy, ya, yn, yc, yb, ym, yd, hvj⟩ := hR.form9
          subst hvj
          have P2_4 := hR.rp (L := [k5, k6]) (by have z5 := K5_3.lt; have z6 := K6_3.lt; intro k hk; simp at hk; omega)
          clear hR
          refine hK.out _ _ (HS.out _ b4.out) (fun hH4 => ?_)
          clear hK K hb4
          refine wpAnyH_ready (rs := [6]) (by kernel_rfl) (by simp) ?_
          refine AllReadyH.cons (o := ({ dst := none, op := Op.store 29 (Operand.tmp 5) (Operand.tmp 12), type := 0, pos := _, after := _, guard := _ } : Oper)) rfl (fun K hK => ?_) AllReadyH.nil
          · have z0 := K5_4.c0
            have z1 := K5_4.c1
            have z2 := K5_4.c2
            have y0 := F5_4.f0
            have y1 := F5_4.f1
            have y2 := F5_4.f2
            go_simp
            have K5_5 := K5_4.put3 qx (.slice xa xn xc) (.slice xb xm xd)
            have K6_5 := K6_4.far3 (p := k5) (fun e => n56.out e.symm) qx (.slice xa xn xc) (.slice xb xm xd)
            have F6_5 := F6_4.put3 (p := k5) qx (.slice xa xn xc) (.slice xb xm xd)
            have F5_5 := F5_4.put3 (p := k5) qx (.slice xa xn xc) (.slice xb xm xd)
            have P1_5 := P1_4.putL (k := k5) (by simp) qx (.slice xa xn xc) (.slice xb xm xd)
            have P2_5 := P2_4.putL (k := k5) (by simp) qx (.slice xa xn xc) (.slice xb xm xd)
            have b5 := hide (st3_below b4.out k5 nk5.out qx (.slice xa xn xc) (.slice xb xm xd))
            unfold st3 at K5_5 K6_5 F5_5 F6_5 P1_5 P2_5 b5
            refine hK.out _ _ (HS.out _ b5.out) (fun hH5 => ?_)
            clear hK K z0 z1 z2 y0 y1 y2
            obtain ⟨w5, hw5⟩ : ∃ z9, z9 = ((w4.setCell ⟨k5, 0, none⟩ (.bool qx)).setCell ⟨k5, 1, none⟩ (.slice xa xn xc)).setCell ⟨k5, 2, none⟩ (.slice xb xm xd) := ⟨_, rfl⟩
            rw [← hw5] at hH5 b5 K5_5 K6_5 F5_5 F6_5 P1_5 P2_5 ⊢
            clear hw5
            refine wpAnyH_ready (rs := [7]) (by kernel_rfl) (by simp) ?_
            refine AllReadyH.cons (o := ({ dst := none, op := Op.store 29 (Operand.tmp 6) (Operand.tmp 14), type := 0, pos := _, after := _, guard := _ } : Oper)) rfl (fun K hK => ?_) AllReadyH.nil
            · have z0 := K6_5.c0
              have z1 := K6_5.c1
              have z2 := K6_5.c2
              have y0 := F6_5.f0
              have y1 := F6_5.f1
              have y2 := F6_5.f2
              go_simp
              have K6_6 := K6_5.put3 qy (.slice ya yn yc) (.slice yb ym yd)
              have K5_6 := K5_5.far3 (p := k6) n56.out qy (.slice ya yn yc) (.slice yb ym yd)
              have F5_6 := F5_5.put3 (p := k6) qy (.slice ya yn yc) (.slice yb ym yd)
              have F6_6 := F6_5.put3 (p := k6) qy (.slice ya yn yc) (.slice yb ym yd)
              have P1_6 := P1_5.putL (k := k6) (by simp) qy (.slice ya yn yc) (.slice yb ym yd)
              have P2_6 := P2_5.putL (k := k6) (by simp) qy (.slice ya yn yc) (.slice yb ym yd)
              have b6 := hide (st3_below b5.out k6 nk6.out qy (.slice ya yn yc) (.slice yb ym yd))
              unfold st3 at K5_6 K6_6 F5_6 F6_6 P1_6 P2_6 b6
              refine hK.out _ _ (HS.out _ b6.out) (fun hH6 => ?_)
              clear hK K z0 z1 z2 y0 y1 y2
              obtain ⟨w6, hw6⟩ : ∃ z9, z9 = ((w5.setCell ⟨k6, 0, none⟩ (.bool qy)).setCell ⟨k6, 1, none⟩ (.slice ya yn yc)).setCell ⟨k6, 2, none⟩ (.slice yb ym yd) := ⟨_, rfl⟩
              rw [← hw6] at hH6 b6 K5_6 K6_6 F5_6 F6_6 P1_6 P2_6 ⊢
              clear hw6
              refine wpAnyH_done (by kernel_rfl) ?_ _
              exact hQ _ _ _ _ _ _ _ _ _ _ _ _ _ _ _ _ _ K5_6 K6_6 P1_6.rs P2_6.rs b6.out
  · go_simp
    have hb1 : Below w0.heap.size w0 (w0.alloc (.cells #[.bool false, .slice none 0 0, .slice none 0 0] 29)) := (Below.refl _ _).alloc (Nat.le_refl _) _
    have b1 := hide (b0.out.trans (hb1.mono b0.out.size))
    have K5_1 := Bs.new w0 false (.slice none 0 0) (.slice none 0 0) 29
    have F5_1 := Fs.new w0 false (.slice none 0 0) (.slice none 0 0) 29
    have nk5 := hide b0.out.size
    refine hK.out _ _ (HS.out _ b1.out) (fun hH1 => ?_)
    clear hK K hb1
    obtain ⟨w1, hw1⟩ : ∃ z9, z9 = (w0.alloc (.cells #[.bool false, .slice none 0 0, .slice none 0 0] 29)) := ⟨_, rfl⟩
    rw [← hw1] at hH1 b1 K5_1 F5_1  ⊢
    clear hw1
    generalize w0.heap.size = k5 at *
    refine wpAnyH_ready (rs := [1, 5]) (by kernel_rfl) (by simp) ?_
    refine AllReadyH.cons (o := ({ dst := some 12, op := Op.call { callee := Callee.value (Operand.func 11), args := #[Operand.tmp 11], argTypes := #[25] }, type := 29, pos := _, after := _, guard := _ } : Oper)) rfl (fun K hK => ?_) (AllReadyH.cons (o := ({ dst := some 6, op := Op.alloc 29, type := 0, pos := _, after := _, guard := _ } : Oper)) rfl (fun K hK => ?_) AllReadyH.nil)
    · go_simp
      go_at_call 11
      refine (to_R (HX.out _ b1.out) ox (by omega)).mono ?_
      rintro e1 w2 ⟨yy, rfl, hb2, hR⟩
      have b2 := hide (b1.out.trans (hb2.mono b1.out.size))
      have K5_2 := K5_1.keep hb2
      have F5_2 := F5_1.of (hb2.block _ K5_1.lt)
      obtain ⟨qx, xa, xn, xc, xb, xm, xd, hvj⟩ := hR.form9
      subst hvj
      have P1_2 := hR.rp (L := [k5]) (by have z5 := K5_1.lt; intro k hk; simp at hk; omega)
      clear hR
      refine hK.out _ _ (HS.out _ b2.out) (fun hH2 => ?_)
      clear hK K hb2
      refine wpAnyH_ready (rs := [3, 5]) (by kernel_rfl) (by simp) ?_
      refine AllReadyH.cons (o := ({ dst := some 14, op := Op.call { callee := Callee.value (Operand.func 11), args := #[Operand.tmp 13], argTypes := #[25] }, type := 29, pos := _, after := _, guard := _ } : Oper)) rfl (fun K hK => ?_) (AllReadyH.cons (o := ({ dst := some 6, op := Op.alloc 29, type := 0, pos := _, after := _, guard := _ } : Oper)) rfl (fun K hK => ?_) AllReadyH.nil)
      · go_simp
        go_at_call 11
        refine (to_R (HY.out _ b2.out) oy (by omega)).mono ?_
        rintro e2 w3 ⟨yy, rfl, hb3, hR⟩
        have b3 := hide (b2.out.trans (hb3.mono b2.out.size))
        have K5_3 := K5_2.keep hb3
        have F5_3 := F5_2.of (hb3.block _ K5_2.lt)
        have P1_3 := P1_2.keep hb3
        obtain ⟨qy, ya, yn, yc, yb, ym, yd, hvj⟩ := hR.form9
        subst hvj
        have P2_3 := hR.rp (L := [k5]) (by have z5 := K5_2.lt; intro k hk; simp at hk; omega)
        clear hR
        refine hK.out _ _ (HS.out _ b3.out) (fun hH3 => ?_)
        clear hK K hb3
        refine wpAnyH_ready (rs := [5]) (by kernel_rfl) (by simp) ?_
        refine AllReadyH.cons (o := ({ dst := some 6, op := Op.alloc 29, type := 0, pos := _, after := _, guard := _ } : Oper)) rfl (fun K hK => ?_) AllReadyH.nil
        · go_simp
          have hb4 : Below w3.heap.size w3 (w3.alloc (.cells #[.bool false, .slice none 0 0, .slice none 0 0] 29)) := (Below.refl _ _).alloc (Nat.le_refl _) _
          have b4 := hide (b3.out.trans (hb4.mono b3.out.size))
          have K5_4 := K5_3.keep hb4
          have F5_4 := F5_3.of (hb4.block _ K5_3.lt)
          have P1_4 := P1_3.of (L' := [k5, w3.heap.size]) (by intro k hk; simp at hk ⊢; omega) (fun k _ hk => hb4.block k hk)
          have P2_4 := P2_3.of (L' := [k5, w3.heap.size]) (by intro k hk; simp at hk ⊢; omega) (fun k _ hk => hb4.block k hk)
          have K6_4 := Bs.new w3 false (.slice none 0 0) (.slice none 0 0) 29
          have F6_4 := Fs.new w3 false (.slice none 0 0) (.slice none 0 0) 29
          have nk6 := hide b3.out.size
          have n56 := hide (Nat.ne_of_lt K5_3.lt)
          refine hK.out _ _ (HS.out _ b4.out) (fun hH4 => ?_)
          clear hK K hb4
          obtain ⟨w4, hw4⟩ : ∃ z9, z9 = (w3.alloc (.cells #[.bool false, .slice none 0 0, .slice none 0 0] 29)) := ⟨_, rfl⟩
          rw [← hw4] at hH4 b4 K5_4 F5_4 K6_4 F6_4 P1_4 P2_4 ⊢
          clear hw4
          generalize w3.heap.size = k6 at *
          refine wpAnyH_ready (rs := [6]) (by kernel_rfl) (by simp) ?_
          refine AllReadyH.cons (o := ({ dst := none, op := Op.store 29 (Operand.tmp 5) (Operand.tmp 12), type := 0, pos := _, after := _, guard := _ } : Oper)) rfl (fun K hK => ?_) AllReadyH.nil
          · have z0 := K5_4.c0
            have z1 := K5_4.c1
            have z2 := K5_4.c2
            have y0 := F5_4.f0
            have y1 := F5_4.f1
            have y2 := F5_4.f2
            go_simp
            have K5_5 := K5_4.put3 qx (.slice xa xn xc) (.slice xb xm xd)
            have K6_5 := K6_4.far3 (p := k5) (fun e => n56.out e.symm) qx (.slice xa xn xc) (.slice xb xm xd)
            have F6_5 := F6_4.put3 (p := k5) qx (.slice xa xn xc) (.slice xb xm xd)
            have F5_5 := F5_4.put3 (p := k5) qx (.slice xa xn xc) (.slice xb xm xd)
            have P1_5 := P1_4.putL (k := k5) (by simp) qx (.slice xa xn xc) (.slice xb xm xd)
            have P2_5 := P2_4.putL (k := k5) (by simp) qx (.slice xa xn xc) (.slice xb xm xd)
            have b5 := hide (st3_below b4.out k5 nk5.out qx (.slice xa xn xc) (.slice xb xm xd))
            unfold st3 at K5_5 K6_5 F5_5 F6_5 P1_5 P2_5 b5
            refine hK.out _ _ (HS.out _ b5.out) (fun hH5 => ?_)
            clear hK K z0 z1 z2 y0 y1 y2
            obtain ⟨w5, hw5⟩ : ∃ z9, z9 = ((w4.setCell ⟨k5, 0, none⟩ (.bool qx)).setCell ⟨k5, 1, none⟩ (.slice xa xn xc)).setCell ⟨k5, 2, none⟩ (.slice xb xm xd) := ⟨_, rfl⟩
            rw [← hw5] at hH5 b5 K5_5 K6_5 F5_5 F6_5 P1_5 P2_5 ⊢
            clear hw5
            refine wpAnyH_ready (rs := [7]) (by kernel_rfl) (by simp) ?_
            refine AllReadyH.cons (o := ({ dst := none, op := Op.store 29 (Operand.tmp 6) (Operand.tmp 14), type := 0, pos := _, after := _, guard := _ } : Oper)) rfl (fun K hK => ?_) AllReadyH.nil
            · have z0 := K6_5.c0
              have z1 := K6_5.c1
              have z2 := K6_5.c2
              have y0 := F6_5.f0
              have y1 := F6_5.f1
              have y2 := F6_5.f2
              go_simp
              have K6_6 := K6_5.put3 qy (.slice ya yn yc) (.slice yb ym yd)
              have K5_6 := K5_5.far3 (p := k6) n56.out qy (.slice ya yn yc) (.slice yb ym yd)
              have F5_6 := F5_5.put3 (p := k6) qy (.slice ya yn yc) (.slice yb ym yd)
              have F6_6 := F6_5.put3 (p := k6) qy (.slice ya yn yc) (.slice yb ym yd)
              have P1_6 := P1_5.putL (k := k6) (by simp) qy (.slice ya yn yc) (.slice yb ym yd)
              have P2_6 := P2_5.putL (k := k6) (by simp) qy (.slice ya yn yc) (.slice yb ym yd)
              have b6 := hide (st3_below b5.out k6 nk6.out qy (.slice ya yn yc) (.slice yb ym yd))
              unfold st3 at K5_6 K6_6 F5_6 F6_6 P1_6 P2_6 b6
              refine hK.out _ _ (HS.out _ b6.out) (fun hH6 => ?_)
              clear hK K z0 z1 z2 y0 y1 y2
              obtain ⟨w6, hw6⟩ : ∃ z9, z9 = ((w5.setCell ⟨k6, 0, none⟩ (.bool qy)).setCell ⟨k6, 1, none⟩ (.slice ya yn yc)).setCell ⟨k6, 2, none⟩ (.slice yb ym yd) := ⟨_, rfl⟩
              rw [← hw6] at hH6 b6 K5_6 K6_6 F5_6 F6_6 P1_6 P2_6 ⊢
              clear hw6
              refine wpAnyH_done (by kernel_rfl) ?_ _
              exact hQ _ _ _ _ _ _ _ _ _ _ _ _ _ _ _ _ _ K5_6 K6_6 P1_6.rs P2_6.rs b6.out
      · go_simp
        have hb3 : Below w2.heap.size w2 (w2.alloc (.cells #[.bool false, .slice none 0 0, .slice none 0 0] 29)) := (Below.refl _ _).alloc (Nat.le_refl _) _
        have b3 := hide (b2.out.trans (hb3.mono b2.out.size))
        have K5_3 := K5_2.keep hb3
        have F5_3 := F5_2.of (hb3.block _ K5_2.lt)
        have P1_3 := P1_2.of (L' := [k5, w2.heap.size]) (by intro k hk; simp at hk ⊢; omega) (fun k _ hk => hb3.block k hk)
        have K6_3 := Bs.new w2 false (.slice none 0 0) (.slice none 0 0) 29
        have F6_3 := Fs.new w2 false (.slice none 0 0) (.slice none 0 0) 29
        have nk6 := hide b2.out.size
        have n56 := hide (Nat.ne_of_lt K5_2.lt)
        refine hK.out _ _ (HS.out _ b3.out) (fun hH3 => ?_)
        clear hK K hb3
        obtain ⟨w3, hw3⟩ : ∃ z9, z9 = (w2.alloc (.cells #[.bool false, .slice none 0 0, .slice none 0 0] 29)) := ⟨_, rfl⟩
        rw [← hw3] at hH3 b3 K5_3 F5_3 K6_3 F6_3 P1_3 ⊢
        clear hw3
        generalize w2.heap.size = k6 at *
        refine wpAnyH_ready (rs := [3]) (by kernel_rfl) (by simp) ?_
        refine AllReadyH.cons (o := ({ dst := some 14, op := Op.call { callee := Callee.value (Operand.func 11), args := #[Operand.tmp 13], argTypes := #[25] }, type := 29, pos := _, after := _, guard := _ } : Oper)) rfl (fun K hK => ?_) AllReadyH.nil
        · go_simp
          go_at_call 11
          refine (to_R (HY.out _ b3.out) oy (by omega)).mono ?_
          rintro e2 w4 ⟨yy, rfl, hb4, hR⟩
          have b4 := hide (b3.out.trans (hb4.mono b3.out.size))
          have K5_4 := K5_3.keep hb4
          have F5_4 := F5_3.of (hb4.block _ K5_3.lt)
          have K6_4 := K6_3.keep hb4
          have F6_4 := F6_3.of (hb4.block _ K6_3.lt)
          have P1_4 := P1_3.keep hb4
          obtain ⟨qy, ya, yn, yc, yb, ym, yd, hvj⟩ := hR.form9
          subst hvj
          have P2_4 := hR.rp (L := [k5, k6]) (by have z5 := K5_3.lt; have z6 := K6_3.lt; intro k hk; simp at hk; omega)
          clear hR
          refine hK.out _ _ (HS.out _ b4.out) (fun hH4 => ?_)
          clear hK K hb4
          refine wpAnyH_ready (rs := [6]) (by kernel_rfl) (by simp) ?_
          refine AllReadyH.cons (o := ({ dst := none, op := Op.store 29 (Operand.tmp 5) (Operand.tmp 12), type := 0, pos := _, after := _, guard := _ } : Oper)) rfl (fun K hK => ?_) AllReadyH.nil
          · have z0 := K5_4.c0
            have z1 := K5_4.c1
            have z2 := K5_4.c2
            have y0 := F5_4.f0
            have y1 := F5_4.f1
            have y2 := F5_4.f2
            go_simp
            have K5_5 := K5_4.put3 qx (.slice xa xn xc) (.slice xb xm xd)
            have K6_5 := K6_4.far3 (p := k5) (fun e => n56.out e.symm) qx (.slice xa xn xc) (.slice xb xm xd)
            have F6_5 := F6_4.put3 (p := k5) qx (.slice xa xn xc) (.slice xb xm xd)
            have F5_5 := F5_4.put3 (p := k5) qx (.slice xa xn xc) (.slice xb xm xd)
            have P1_5 := P1_4.putL (k := k5) (by simp) qx (.slice xa xn xc) (.slice xb xm xd)
            have P2_5 := P2_4.putL (k := k5) (by simp) qx (.slice xa xn xc) (.slice xb xm xd)
            have b5 := hide (st3_below b4.out k5 nk5.out qx (.slice xa xn xc) (.slice xb xm xd))
            unfold st3 at K5_5 K6_5 F5_5 F6_5 P1_5 P2_5 b5
            refine hK.out _ _ (HS.out _ b5.out) (fun hH5 => ?_)
            clear hK K z0 z1 z2 y0 y1 y2
            obtain ⟨w5, hw5⟩ : ∃ z9, z9 = ((w4.setCell ⟨k5, 0, none⟩ (.bool qx)).setCell ⟨k5, 1, none⟩ (.slice xa xn xc)).setCell ⟨k5, 2, none⟩ (.slice xb xm xd) := ⟨_, rfl⟩
            rw [← hw5] at hH5 b5 K5_5 K6_5 F5_5 F6_5 P1_5 P2_5 ⊢
            clear hw5
            refine wpAnyH_ready (rs := [7]) (by kernel_rfl) (by simp) ?_
            refine AllReadyH.cons (o := ({ dst := none, op := Op.store 29 (Operand.tmp 6) (Operand.tmp 14), type := 0, pos := _, after := _, guard := _ } : Oper)) rfl (fun K hK => ?_) AllReadyH.nil
            · have z0 := K6_5.c0
              have z1 := K6_5.c1
              have z2 := K6_5.c2
              have y0 := F6_5.f0
              have y1 := F6_5.f1
              have y2 := F6_5.f2
              go_simp
              have K6_6 := K6_5.put3 qy (.slice ya yn yc) (.slice yb ym yd)
              have K5_6 := K5_5.far3 (p := k6) n56.out qy (.slice ya yn yc) (.slice yb ym yd)
              have F5_6 := F5_5.put3 (p := k6) qy (.slice ya yn yc) (.slice yb ym yd)
              have F6_6 := F6_5.put3 (p := k6) qy (.slice ya yn yc) (.slice yb ym yd)
              have P1_6 := P1_5.putL (k := k6) (by simp) qy (.slice ya yn yc) (.slice yb ym yd)
              have P2_6 := P2_5.putL (k := k6) (by simp) qy (.slice ya yn yc) (.slice yb ym yd)
              have b6 := hide (st3_below b5.out k6 nk6.out qy (.slice ya yn yc) (.slice yb ym yd))
              unfold st3 at K5_6 K6_6 F5_6 F6_6 P1_6 P2_6 b6
              refine hK.out _ _ (HS.out _ b6.out) (fun hH6 => ?_)
              clear hK K z0 z1 z2 y0 y1 y2
              obtain ⟨w6, hw6⟩ : ∃ z9, z9 = ((w5.setCell ⟨k6, 0, none⟩ (.bool qy)).setCell ⟨k6, 1, none⟩ (.slice ya yn yc)).setCell ⟨k6, 2, none⟩ (.slice yb ym yd) := ⟨_, rfl⟩
              rw [← hw6] at hH6 b6 K5_6 K6_6 F5_6 F6_6 P1_6 P2_6 ⊢
              clear hw6
              refine wpAnyH_done (by kernel_rfl) ?_ _
              exact hQ _ _ _ _ _ _ _ _ _ _ _ _ _ _ _ _ _ K5_6 K6_6 P1_6.rs P2_6.rs b6.out
    · go_simp
      have hb2 : Below w1.heap.size w1 (w1.alloc (.cells #[.bool false, .slice none 0 0, .slice none 0 0] 29)) := (Below.refl _ _).alloc (Nat.le_refl _) _
      have b2 := hide (b1.out.trans (hb2.mono b1.out.size))
      have K5_2 := K5_1.keep hb2
      have F5_2 := F5_1.of (hb2.block _ K5_1.lt)
      have K6_2 := Bs.new w1 false (.slice none 0 0) (.slice none 0 0) 29
      have F6_2 := Fs.new w1 false (.slice none 0 0) (.slice none 0 0) 29
      have nk6 := hide b1.out.size
      have n56 := hide (Nat.ne_of_lt K5_1.lt)
      refine hK.out _ _ (HS.out _ b2.out) (fun hH2 => ?_)
      clear hK K hb2
      obtain ⟨w2, hw2⟩ : ∃ z9, z9 = (w1.alloc (.cells #[.bool false, .slice none 0 0, .slice none 0 0] 29)) := ⟨_, rfl⟩
      rw [← hw2] at hH2 b2 K5_2 F5_2 K6_2 F6_2  ⊢
      clear hw2
      generalize w1.heap.size = k6 at *
      refine wpAnyH_ready (rs := [1]) (by kernel_rfl) (by simp) ?_
      refine AllReadyH.cons (o := ({ dst := some 12, op := Op.call { callee := Callee.value (Operand.func 11), args := #[Operand.tmp 11], argTypes := #[25] }, type := 29, pos := _, after := _, guard := _ } : Oper)) rfl (fun K hK => ?_) AllReadyH.nil
      · go_simp
        go_at_call 11
        refine (to_R (HX.out _ b2.out) ox (by omega)).mono ?_
        rintro e1 w3 ⟨yy, rfl, hb3, hR⟩
        have b3 := hide (b2.out.trans (hb3.mono b2.out.size))
        have K5_3 := K5_2.keep hb3
        have F5_3 := F5_2.of (hb3.block _ K5_2.lt)
        have K6_3 := K6_2.keep hb3
        have F6_3 := F6_2.of (hb3.block _ K6_2.lt)
        obtain ⟨qx, xa, xn, xc, xb, xm, xd, hvj⟩ := hR.form9
        subst hvj
        have P1_3 := hR.rp (L := [k5, k6]) (by have z5 := K5_2.lt; have z6 := K6_2.lt; intro k hk; simp at hk; omega)
        clear hR
        refine hK.out _ _ (HS.out _ b3.out) (fun hH3 => ?_)
        clear hK K hb3
        refine wpAnyH_ready (rs := [3]) (by kernel_rfl) (by simp) ?_
        refine AllReadyH.cons (o := ({ dst := some 14, op := Op.call { callee := Callee.value (Operand.func 11), args := #[Operand.tmp 13], argTypes := #[25] }, type := 29, pos := _, after := _, guard := _ } : Oper)) rfl (fun K hK => ?_) AllReadyH.nil
        · go_simp
          go_at_call 11
          refine (to_R (HY.out _ b3.out) oy (by omega)).mono ?_
          rintro e2 w4 ⟨yy, rfl, hb4, hR⟩
          have b4 := hide (b3.out.trans (hb4.mono b3.out.size))
          have K5_4 := K5_3.keep hb4
          have F5_4 := F5_3.of (hb4.block _ K5_3.lt)
          have K6_4 := K6_3.keep hb4
          have F6_4 := F6_3.of (hb4.block _ K6_3.lt)
          have P1_4 := P1_3.keep hb4
          obtain ⟨qy, ya, yn, yc, yb, ym, yd, hvj⟩ := hR.form9
          subst hvj
          have P2_4 := hR.rp (L := [k5, k6]) (by have z5 := K5_3.lt; have z6 := K6_3.lt; intro k hk; simp at hk; omega)
          clear hR
          refine hK.out _ _ (HS.out _ b4.out) (fun hH4 => ?_)
          clear hK K hb4
          refine wpAnyH_ready (rs := [6]) (by kernel_rfl) (by simp) ?_
          refine AllReadyH.cons (o := ({ dst := none, op := Op.store 29 (Operand.tmp 5) (Operand.tmp 12), type := 0, pos := _, after := _, guard := _ } : Oper)) rfl (fun K hK => ?_) AllReadyH.nil
          · have z0 := K5_4.c0
            have z1 := K5_4.c1
            have z2 := K5_4.c2
            have y0 := F5_4.f0
            have y1 := F5_4.f1
            have y2 := F5_4.f2
            go_simp
            have K5_5 := K5_4.put3 qx (.slice xa xn xc) (.slice xb xm xd)
            have K6_5 := K6_4.far3 (p := k5) (fun e => n56.out e.symm) qx (.slice xa xn xc) (.slice xb xm xd)
            have F6_5 := F6_4.put3 (p := k5) qx (.slice xa xn xc) (.slice xb xm xd)
            have F5_5 := F5_4.put3 (p := k5) qx (.slice xa xn xc) (.slice xb xm xd)
            have P1_5 := P1_4.putL (k := k5) (by simp) qx (.slice xa xn xc) (.slice xb xm xd)
            have P2_5 := P2_4.putL (k := k5) (by simp) qx (.slice xa xn xc) (.slice xb xm xd)
            have b5 := hide (st3_below b4.out k5 nk5.out qx (.slice xa xn xc) (.slice xb xm xd))
            unfold st3 at K5_5 K6_5 F5_5 F6_5 P1_5 P2_5 b5
            refine hK.out _ _ (HS.out _ b5.out) (fun hH5 => ?_)
            clear hK K z0 z1 z2 y0 y1 y2
            obtain ⟨w5, hw5⟩ : ∃ z9, z9 = ((w4.setCell ⟨k5, 0, none⟩ (.bool qx)).setCell ⟨k5, 1, none⟩ (.slice xa xn xc)).setCell ⟨k5, 2, none⟩ (.slice xb xm xd) := ⟨_, rfl⟩
            rw [← hw5] at hH5 b5 K5_5 K6_5 F5_5 F6_5 P1_5 P2_5 ⊢
            clear hw5
            refine wpAnyH_ready (rs := [7]) (by kernel_rfl) (by simp) ?_
            refine AllReadyH.cons (o := ({ dst := none, op := Op.store 29 (Operand.tmp 6) (Operand.tmp 14), type := 0, pos := _, after := _, guard := _ } : Oper)) rfl (fun K hK => ?_) AllReadyH.nil
            · have z0 := K6_5.c0
              have z1 := K6_5.c1
              have z2 := K6_5.c2
              have y0 := F6_5.f0
              have y1 := F6_5.f1
              have y2 := F6_5.f2
              go_simp
              have K6_6 := K6_5.put3 qy (.slice ya yn yc) (.slice yb ym yd)
              have K5_6 := K5_5.far3 (p := k6) n56.out qy (.slice ya yn yc) (.slice yb ym yd)
              have F5_6 := F5_5.put3 (p := k6) qy (.slice ya yn yc) (.slice yb ym yd)
              have F6_6 := F6_5.put3 (p := k6) qy (.slice ya yn yc) (.slice yb ym yd)
              have P1_6 := P1_5.putL (k := k6) (by simp) qy (.slice ya yn yc) (.slice yb ym yd)
              have P2_6 := P2_5.putL (k := k6) (by simp) qy (.slice ya yn yc) (.slice yb ym yd)
              have b6 := hide (st3_below b5.out k6 nk6.out qy (.slice ya yn yc) (.slice yb ym yd))
              unfold st3 at K5_6 K6_6 F5_6 F6_6 P1_6 P2_6 b6
              refine hK.out _ _ (HS.out _ b6.out) (fun hH6 => ?_)
              clear hK K z0 z1 z2 y0 y1 y2
              obtain ⟨w6, hw6⟩ : ∃ z9, z9 = ((w5.setCell ⟨k6, 0, none⟩ (.bool qy)).setCell ⟨k6, 1, none⟩ (.slice ya yn yc)).setCell ⟨k6, 2, none⟩ (.slice yb ym yd) := ⟨_, rfl⟩
              rw [← hw6] at hH6 b6 K5_6 K6_6 F5_6 F6_6 P1_6 P2_6 ⊢
              clear hw6
              refine wpAnyH_done (by kernel_rfl) ?_ _
              exact hQ _ _ _ _ _ _ _ _ _ _ _ _ _ _ _ _ _ K5_6 K6_6 P1_6.rs P2_6.rs b6.out
  · go_simp
    have hb1 : Below w0.heap.size w0 (w0.alloc (.cells #[.bool false, .slice none 0 0, .slice none 0 0] 29)) := (Below.refl _ _).alloc (Nat.le_refl _) _
    have b1 := hide (b0.out.trans (hb1.mono b0.out.size))
    have K6_1 := Bs.new w0 false (.slice none 0 0) (.slice none 0 0) 29
    have F6_1 := Fs.new w0 false (.slice none 0 0) (.slice none 0 0) 29
    have nk6 := hide b0.out.size
    refine hK.out _ _ (HS.out _ b1.out) (fun hH1 => ?_)
    clear hK K hb1
    obtain ⟨w1, hw1⟩ : ∃ z9, z9 = (w0.alloc (.cells #[.bool false, .slice none 0 0, .slice none 0 0] 29)) := ⟨_, rfl⟩
    rw [← hw1] at hH1 b1 K6_1 F6_1  ⊢
    clear hw1
    generalize w0.heap.size = k6 at *
    refine wpAnyH_ready (rs := [1, 4]) (by kernel_rfl) (by simp) ?_
    refine AllReadyH.cons (o := ({ dst := some 12, op := Op.call { callee := Callee.value (Operand.func 11), args := #[Operand.tmp 11], argTypes := #[25] }, type := 29, pos := _, after := _, guard := _ } : Oper)) rfl (fun K hK => ?_) (AllReadyH.cons (o := ({ dst := some 5, op := Op.alloc 29, type := 0, pos := _, after := _, guard := _ } : Oper)) rfl (fun K hK => ?_) AllReadyH.nil)
    · go_simp
      go_at_call 11
      refine (to_R (HX.out _ b1.out) ox (by omega)).mono ?_
      rintro e1 w2 ⟨yy, rfl, hb2, hR⟩
      have b2 := hide (b1.out.trans (hb2.mono b1.out.size))
      have K6_2 := K6_1.keep hb2
      have F6_2 := F6_1.of (hb2.block _ K6_1.lt)
      obtain ⟨qx, xa, xn, xc, xb, xm, xd, hvj⟩ := hR.form9
      subst hvj
      have P1_2 := hR.rp (L := [k6]) (by have z6 := K6_1.lt; intro k hk; simp at hk; omega)
      clear hR
      refine hK.out _ _ (HS.out _ b2.out) (fun hH2 => ?_)
      clear hK K hb2
      refine wpAnyH_ready (rs := [3, 4]) (by kernel_rfl) (by simp) ?_
      refine AllReadyH.cons (o := ({ dst := some 14, op := Op.call { callee := Callee.value (Operand.func 11), args := #[Operand.tmp 13], argTypes := #[25] }, type := 29, pos := _, after := _, guard := _ } : Oper)) rfl (fun K hK => ?_) (AllReadyH.cons (o := ({ dst := some 5, op := Op.alloc 29, type := 0, pos := _, after := _, guard := _ } : Oper)) rfl (fun K hK => ?_) AllReadyH.nil)
      · go_simp
        go_at_call 11
        refine (to_R (HY.out _ b2.out) oy (by omega)).mono ?_
        rintro e2 w3 ⟨yy, rfl, hb3, hR⟩
        have b3 := hide (b2.out.trans (hb3.mono b2.out.size))
        have K6_3 := K6_2.keep hb3
        have F6_3 := F6_2.of (hb3.block _ K6_2.lt)
        have P1_3 := P1_2.keep hb3
        obtain ⟨qy, ya, yn, yc, yb, ym, yd, hvj⟩ := hR.form9
        subst hvj
        have P2_3 := hR.rp (L := [k6]) (by have z6 := K6_2.lt; intro k hk; simp at hk; omega)
        clear hR
        refine hK.out _ _ (HS.out _ b3.out) (fun hH3 => ?_)
        clear hK K hb3
        refine wpAnyH_ready (rs := [4]) (by kernel_rfl) (by simp) ?_
        refine AllReadyH.cons (o := ({ dst := some 5, op := Op.alloc 29, type := 0, pos := _, after := _, guard := _ } : Oper)) rfl (fun K hK => ?_) AllReadyH.nil
        · go_simp
          have hb4 : Below w3.heap.size w3 (w3.alloc (.cells #[.bool false, .slice none 0 0, .slice none 0 0] 29)) := (Below.refl _ _).alloc (Nat.le_refl _) _
          have b4 := hide (b3.out.trans (hb4.mono b3.out.size))
          have K6_4 := K6_3.keep hb4
          have F6_4 := F6_3.of (hb4.block _ K6_3.lt)
          have P1_4 := P1_3.of (L' := [w3.heap.size, k6]) (by intro k hk; simp at hk ⊢; omega) (fun k _ hk => hb4.block k hk)
          have P2_4 := P2_3.of (L' := [w3.heap.size, k6]) (by intro k hk; simp at hk ⊢; omega) (fun k _ hk => hb4.block k hk)
          have K5_4 := Bs.new w3 false (.slice none 0 0) (.slice none 0 0) 29
          have F5_4 := Fs.new w3 false (.slice none 0 0) (.slice none 0 0) 29
          have nk5 := hide b3.out.size
          have n56 := hide (Nat.ne_of_gt K6_3.lt)
          refine hK.out _ _ (HS.out _ b4.out) (fun hH4 => ?_)
          clear hK K hb4
          obtain ⟨w4, hw4⟩ : ∃ z9, z9 = (w3.alloc (.cells #[.bool false, .slice none 0 0, .slice none 0 0] 29)) := ⟨_, rfl⟩
          rw [← hw4] at hH4 b4 K5_4 F5_4 K6_4 F6_4 P1_4 P2_4 ⊢
          clear hw4
          generalize w3.heap.size = k5 at *
          refine wpAnyH_ready (rs := [6]) (by kernel_rfl) (by simp) ?_
          refine AllReadyH.cons (o := ({ dst := none, op := Op.store 29 (Operand.tmp 5) (Operand.tmp 12), type := 0, pos := _, after := _, guard := _ } : Oper)) rfl (fun K hK => ?_) AllReadyH.nil
          · have z0 := K5_4.c0
            have z1 := K5_4.c1
            have z2 := K5_4.c2
            have y0 := F5_4.f0
            have y1 := F5_4.f1
            have y2 := F5_4.f2
            go_simp
            have K5_5 := K5_4.put3 qx (.slice xa xn xc) (.slice xb xm xd)
            have K6_5 := K6_4.far3 (p := k5) (fun e => n56.out e.symm) qx (.slice xa xn xc) (.slice xb xm xd)
            have F6_5 := F6_4.put3 (p := k5) qx (.slice xa xn xc) (.slice xb xm xd)
            have F5_5 := F5_4.put3 (p := k5) qx (.slice xa xn xc) (.slice xb xm xd)
            have P1_5 := P1_4.putL (k := k5) (by simp) qx (.slice xa xn xc) (.slice xb xm xd)
            have P2_5 := P2_4.putL (k := k5) (by simp) qx (.slice xa xn xc) (.slice xb xm xd)
            have b5 := hide (st3_below b4.out k5 nk5.out qx (.slice xa xn xc) (.slice xb xm xd))
            unfold st3 at K5_5 K6_5 F5_5 F6_5 P1_5 P2_5 b5
            refine hK.out _ _ (HS.out _ b5.out) (fun hH5 => ?_)
            clear hK K z0 z1 z2 y0 y1 y2
            obtain ⟨w5, hw5⟩ : ∃ z9, z9 = ((w4.setCell ⟨k5, 0, none⟩ (.bool qx)).setCell ⟨k5, 1, none⟩ (.slice xa xn xc)).setCell ⟨k5, 2, none⟩ (.slice xb xm xd) := ⟨_, rfl⟩
            rw [← hw5] at hH5 b5 K5_5 K6_5 F5_5 F6_5 P1_5 P2_5 ⊢
            clear hw5
            refine wpAnyH_ready (rs := [7]) (by kernel_rfl) (by simp) ?_
            refine AllReadyH.cons (o := ({ dst := none, op := Op.store 29 (Operand.tmp 6) (Operand.tmp 14), type := 0, pos := _, after := _, guard := _ } : Oper)) rfl (fun K hK => ?_) AllReadyH.nil
            · have z0 := K6_5.c0
              have z1 := K6_5.c1
              have z2 := K6_5.c2
              have y0 := F6_5.f0
              have y1 := F6_5.f1
              have y2 := F6_5.f2
              go_simp
              have K6_6 := K6_5.put3 qy (.slice ya yn yc) (.slice yb ym yd)
              have K5_6 := K5_5.far3 (p := k6) n56.out qy (.slice ya yn yc) (.slice yb ym yd)
              have F5_6 := F5_5.put3 (p := k6) qy (.slice ya yn yc) (.slice yb ym yd)
              have F6_6 := F6_5.put3 (p := k6) qy (.slice ya yn yc) (.slice yb ym yd)
              have P1_6 := P1_5.putL (k := k6) (by simp) qy (.slice ya yn yc) (.slice yb ym yd)
              have P2_6 := P2_5.putL (k := k6) (by simp) qy (.slice ya yn yc) (.slice yb ym yd)
              have b6 := hide (st3_below b5.out k6 nk6.out qy (.slice ya yn yc) (.slice yb ym yd))
              unfold st3 at K5_6 K6_6 F5_6 F6_6 P1_6 P2_6 b6
              refine hK.out _ _ (HS.out _ b6.out) (fun hH6 => ?_)
              clear hK K z0 z1 z2 y0 y1 y2
              obtain ⟨w6, hw6⟩ : ∃ z9, z9 = ((w5.setCell ⟨k6, 0, none⟩ (.bool qy)).setCell ⟨k6, 1, none⟩ (.slice ya yn yc)).setCell ⟨k6, 2, none⟩ (.slice yb ym yd) := ⟨_, rfl⟩
              rw [← hw6] at hH6 b6 K5_6 K6_6 F5_6 F6_6 P1_6 P2_6 ⊢
              clear hw6
              refine wpAnyH_done (by kernel_rfl) ?_ _
              exact hQ _ _ _ _ _ _ _ _ _ _ _ _ _ _ _ _ _ K5_6 K6_6 P1_6.rs P2_6.rs b6.out
      · go_simp
        have hb3 : Below w2.heap.size w2 (w2.alloc (.cells #[.bool false, .slice none 0 0, .slice none 0 0] 29)) := (Below.refl _ _).alloc (Nat.le_refl _) _
        have b3 := hide (b2.out.trans (hb3.mono b2.out.size))
        have K6_3 := K6_2.keep hb3
        have F6_3 := F6_2.of (hb3.block _ K6_2.lt)
        have P1_3 := P1_2.of (L' := [w2.heap.size, k6]) (by intro k hk; simp at hk ⊢; omega) (fun k _ hk => hb3.block k hk)
        have K5_3 := Bs.new w2 false (.slice none 0 0) (.slice none 0 0) 29
        have F5_3 := Fs.new w2 false (.slice none 0 0) (.slice none 0 0) 29
        have nk5 := hide b2.out.size
        have n56 := hide (Nat.ne_of_gt K6_2.lt)
        refine hK.out _ _ (HS.out _ b3.out) (fun hH3 => ?_)
        clear hK K hb3
        obtain ⟨w3, hw3⟩ : ∃ z9, z9 = (w2.alloc (.cells #[.bool false, .slice none 0 0, .slice none 0 0] 29)) := ⟨_, rfl⟩
        rw [← hw3] at hH3 b3 K5_3 F5_3 K6_3 F6_3 P1_3 ⊢
        clear hw3
        generalize w2.heap.size = k5 at *
        refine wpAnyH_ready (rs := [3]) (by kernel_rfl) (by simp) ?_
        refine AllReadyH.cons (o := ({ dst := some 14, op := Op.call { callee := Callee.value (Operand.func 11), args := #[Operand.tmp 13], argTypes := #[25] }, type := 29, pos := _, after := _, guard := _ } : Oper)) rfl (fun K hK => ?_) AllReadyH.nil
        · go_simp
          go_at_call 11
          refine (to_R (HY.out _ b3.out) oy (by omega)).mono ?_
          rintro e2 w4 ⟨yy, rfl, hb4, hR⟩
          have b4 := hide (b3.out.trans (hb4.mono b3.out.size))
          have K5_4 := K5_3.keep hb4
          have F5_4 := F5_3.of (hb4.block _ K5_3.lt)
          have K6_4 := K6_3.keep hb4
          have F6_4 := F6_3.of (hb4.block _ K6_3.lt)
          have P1_4 := P1_3.keep hb4
          obtain ⟨qy, ya, yn, yc, yb, ym, yd, hvj⟩ := hR.form9
          subst hvj
          have P2_4 := hR.rp (L := [k5, k6]) (by have z5 := K5_3.lt; have z6 := K6_3.lt; intro k hk; simp at hk; omega)
          clear hR
          refine hK.out _ _ (HS.out _ b4.out) (fun hH4 => ?_)
          clear hK K hb4
          refine wpAnyH_ready (rs := [6]) (by kernel_rfl) (by simp) ?_
          refine AllReadyH.cons (o := ({ dst := none, op := Op.store 29 (Operand.tmp 5) (Operand.tmp 12), type := 0, pos := _, after := _, guard := _ } : Oper)) rfl (fun K hK => ?_) AllReadyH.nil
          · have z0 := K5_4.c0
            have z1 := K5_4.c1
            have z2 := K5_4.c2
            have y0 := F5_4.f0
            have y1 := F5_4.f1
            have y2 := F5_4.f2
            go_simp
            have K5_5 := K5_4.put3 qx (.slice xa xn xc) (.slice xb xm xd)
            have K6_5 := K6_4.far3 (p := k5) (fun e => n56.out e.symm) qx (.slice xa xn xc) (.slice xb xm xd)
            have F6_5 := F6_4.put3 (p := k5) qx (.slice xa xn xc) (.slice xb xm xd)
            have F5_5 := F5_4.put3 (p := k5) qx (.slice xa xn xc) (.slice xb xm xd)
            have P1_5 := P1_4.putL (k := k5) (by simp) qx (.slice xa xn xc) (.slice xb xm xd)
            have P2_5 := P2_4.putL (k := k5) (by simp) qx (.slice xa xn xc) (.slice xb xm xd)
            have b5 := hide (st3_below b4.out k5 nk5.out qx (.slice xa xn xc) (.slice xb xm xd))
            unfold st3 at K5_5 K6_5 F5_5 F6_5 P1_5 P2_5 b5
            refine hK.out _ _ (HS.out _ b5.out) (fun hH5 => ?_)
            clear hK K z0 z1 z2 y0 y1 y2
            obtain ⟨w5, hw5⟩ : ∃ z9, z9 = ((w4.setCell ⟨k5, 0, none⟩ (.bool qx)).setCell ⟨k5, 1, none⟩ (.slice xa xn xc)).setCell ⟨k5, 2, none⟩ (.slice xb xm xd) := ⟨_, rfl⟩
            rw [← hw5] at hH5 b5 K5_5 K6_5 F5_5 F6_5 P1_5 P2_5 ⊢
            clear hw5
            refine wpAnyH_ready (rs := [7]) (by kernel_rfl) (by simp) ?_
            refine AllReadyH.cons (o := ({ dst := none, op := Op.store 29 (Operand.tmp 6) (Operand.tmp 14), type := 0, pos := _, after := _, guard := _ } : Oper)) rfl (fun K hK => ?_) AllReadyH.nil
            · have z0 := K6_5.c0
              have z1 := K6_5.c1
              have z2 := K6_5.c2
              have y0 := F6_5.f0
              have y1 := F6_5.f1
              have y2 := F6_5.f2
              go_simp
              have K6_6 := K6_5.put3 qy (.slice ya yn yc) (.slice yb ym yd)
              have K5_6 := K5_5.far3 (p := k6) n56.out qy (.slice ya yn yc) (.slice yb ym yd)
              have F5_6 := F5_5.put3 (p := k6) qy (.slice ya yn yc) (.slice yb ym yd)
              have F6_6 := F6_5.put3 (p := k6) qy (.slice ya yn yc) (.slice yb ym yd)
              have P1_6 := P1_5.putL (k := k6) (by simp) qy (.slice ya yn yc) (.slice yb ym yd)
              have P2_6 := P2_5.putL (k := k6) (by simp) qy (.slice ya yn yc) (.slice yb ym yd)
              have b6 := hide (st3_below b5.out k6 nk6.out qy (.slice ya yn yc) (.slice yb ym yd))
              unfold st3 at K5_6 K6_6 F5_6 F6_6 P1_6 P2_6 b6
              refine hK.out _ _ (HS.out _ b6.out) (fun hH6 => ?_)
              clear hK K z0 z1 z2 y0 y1 y2
              obtain ⟨w6, hw6⟩ : ∃ z9, z9 = ((w5.setCell ⟨k6, 0, none⟩ (.bool qy)).setCell ⟨k6, 1, none⟩ (.slice ya yn yc)).setCell ⟨k6, 2, none⟩ (.slice yb ym yd) := ⟨_, rfl⟩
              rw [← hw6] at hH6 b6 K5_6 K6_6 F5_6 F6_6 P1_6 P2_6 ⊢
              clear hw6
              refine wpAnyH_done (by kernel_rfl) ?_ _
              exact hQ _ _ _ _ _ _ _ _ _ _ _ _ _ _ _ _ _ K5_6 K6_6 P1_6.rs P2_6.rs b6.out
    · go_simp
      have hb2 : Below w1.heap.size w1 (w1.alloc (.cells #[.bool false, .slice none 0 0, .slice none 0 0] 29)) := (Below.refl _ _).alloc (Nat.le_refl _) _
      have b2 := hide (b1.out.trans (hb2.mono b1.out.size))
      have K6_2 := K6_1.keep hb2
      have F6_2 := F6_1.of (hb2.block _ K6_1.lt)
      have K5_2 := Bs.new w1 false (.slice none 0 0) (.slice none 0 0) 29
      have F5_2 := Fs.new w1 false (.slice none 0 0) (.slice none 0 0) 29
      have nk5 := hide b1.out.size
      have n56 := hide (Nat.ne_of_gt K6_1.lt)
      refine hK.out _ _ (HS.out _ b2.out) (fun hH2 => ?_)
      clear hK K hb2
      obtain ⟨w2, hw2⟩ : ∃ z9, z9 = (w1.alloc (.cells #[.bool false, .slice none 0 0, .slice none 0 0] 29)) := ⟨_, rfl⟩
      rw [← hw2] at hH2 b2 K5_2 F5_2 K6_2 F6_2  ⊢
      clear hw2
      generalize w1.heap.size = k5 at *
      refine wpAnyH_ready (rs := [1]) (by kernel_rfl) (by simp) ?_
      refine AllReadyH.cons (o := ({ dst := some 12, op := Op.call { callee := Callee.value (Operand.func 11), args := #[Operand.tmp 11], argTypes := #[25] }, type := 29, pos := _, after := _, guard := _ } : Oper)) rfl (fun K hK => ?_) AllReadyH.nil
      · go_simp
        go_at_call 11
        refine (to_R (HX.out _ b2.out) ox (by omega)).mono ?_
        rintro e1 w3 ⟨yy, rfl, hb3, hR⟩
        have b3 := hide (b2.out.trans (hb3.mono b2.out.size))
        have K5_3 := K5_2.keep hb3
        have F5_3 := F5_2.of (hb3.block _ K5_2.lt)
        have K6_3 := K6_2.keep hb3
        have F6_3 := F6_2.of (hb3.block _ K6_2.lt)
        obtain ⟨qx, xa, xn, xc, xb, xm, xd, hvj⟩ := hR.form9
        subst hvj
        have P1_3 := hR.rp (L := [k5, k6]) (by have z5 := K5_2.lt; have z6 := K6_2.lt; intro k hk; simp at hk; omega)
        clear hR
        refine hK.out _ _ (HS.out _ b3.out) (fun hH3 => ?_)
        clear hK K hb3
        refine wpAnyH_ready (rs := [3]) (by kernel_rfl) (by simp) ?_
        refine AllReadyH.cons (o := ({ dst := some 14, op := Op.call { callee := Callee.value (Operand.func 11), args := #[Operand.tmp 13], argTypes := #[25] }, type := 29, pos := _, after := _, guard := _ } : Oper)) rfl (fun K hK => ?_) AllReadyH.nil
        · go_simp
          go_at_call 11
          refine (to_R (HY.out _ b3.out) oy (by omega)).mono ?_
          rintro e2 w4 ⟨yy, rfl, hb4, hR⟩
          have b4 := hide (b3.out.trans (hb4.mono b3.out.size))
          have K5_4 := K5_3.keep hb4
          have F5_4 := F5_3.of (hb4.block _ K5_3.lt)
          have K6_4 := K6_3.keep hb4
          have F6_4 := F6_3.of (hb4.block _ K6_3.lt)
          have P1_4 := P1_3.keep hb4
          obtain ⟨qy, ya, yn, yc, yb, ym, yd, hvj⟩ := hR.form9
          subst hvj
          have P2_4 := hR.rp (L := [k5, k6]) (by have z5 := K5_3.lt; have z6 := K6_3.lt; intro k hk; simp at hk; omega)
          clear hR
          refine hK.out _ _ (HS.out _ b4.out) (fun hH4 => ?_)
          clear hK K hb4
          refine wpAnyH_ready (rs := [6]) (by kernel_rfl) (by simp) ?_
          refine AllReadyH.cons (o := ({ dst := none, op := Op.store 29 (Operand.tmp 5) (Operand.tmp 12), type := 0, pos := _, after := _, guard := _ } : Oper)) rfl (fun K hK => ?_) AllReadyH.nil
          · have z0 := K5_4.c0
            have z1 := K5_4.c1
            have z2 := K5_4.c2
            have y0 := F5_4.f0
            have y1 := F5_4.f1
            have y2 := F5_4.f2
            go_simp
            have K5_5 := K5_4.put3 qx (.slice xa xn xc) (.slice xb xm xd)
            have K6_5 := K6_4.far3 (p := k5) (fun e => n56.out e.symm) qx (.slice xa xn xc) (.slice xb xm xd)
            have F6_5 := F6_4.put3 (p := k5) qx (.slice xa xn xc) (.slice xb xm xd)
            have F5_5 := F5_4.put3 (p := k5) qx (.slice xa xn xc) (.slice xb xm xd)
            have P1_5 := P1_4.putL (k := k5) (by simp) qx (.slice xa xn xc) (.slice xb xm xd)
            have P2_5 := P2_4.putL (k := k5) (by simp) qx (.slice xa xn xc) (.slice xb xm xd)
            have b5 := hide (st3_below b4.out k5 nk5.out qx (.slice xa xn xc) (.slice xb xm xd))
            unfold st3 at K5_5 K6_5 F5_5 F6_5 P1_5 P2_5 b5
            refine hK.out _ _ (HS.out _ b5.out) (fun hH5 => ?_)
            clear hK K z0 z1 z2 y0 y1 y2
            obtain ⟨w5, hw5⟩ : ∃ z9, z9 = ((w4.setCell ⟨k5, 0, none⟩ (.bool qx)).setCell ⟨k5, 1, none⟩ (.slice xa xn xc)).setCell ⟨k5, 2, none⟩ (.slice xb xm xd) := ⟨_, rfl⟩
            rw [← hw5] at hH5 b5 K5_5 K6_5 F5_5 F6_5 P1_5 P2_5 ⊢
            clear hw5
            refine wpAnyH_ready (rs := [7]) (by kernel_rfl) (by simp) ?_
            refine AllReadyH.cons (o := ({ dst := none, op := Op.store 29 (Operand.tmp 6) (Operand.tmp 14), type := 0, pos := _, after := _, guard := _ } : Oper)) rfl (fun K hK => ?_) AllReadyH.nil
            · have z0 := K6_5.c0
              have z1 := K6_5.c1
              have z2 := K6_5.c2
              have y0 := F6_5.f0
              have y1 := F6_5.f1
              have y2 := F6_5.f2
              go_simp
              have K6_6 := K6_5.put3 qy (.slice ya yn yc) (.slice yb ym yd)
              have K5_6 := K5_5.far3 (p := k6) n56.out qy (.slice ya yn yc) (.slice yb ym yd)
              have F5_6 := F5_5.put3 (p := k6) qy (.slice ya yn yc) (.slice yb ym yd)
              have F6_6 := F6_5.put3 (p := k6) qy (.slice ya yn yc) (.slice yb ym yd)
              have P1_6 := P1_5.putL (k := k6) (by simp) qy (.slice ya yn yc) (.slice yb ym yd)
              have P2_6 := P2_5.putL (k := k6) (by simp) qy (.slice ya yn yc) (.slice yb ym yd)
              have b6 := hide (st3_below b5.out k6 nk6.out qy (.slice ya yn yc) (.slice yb ym yd))
              unfold st3 at K5_6 K6_6 F5_6 F6_6 P1_6 P2_6 b6
              refine hK.out _ _ (HS.out _ b6.out) (fun hH6 => ?_)
              clear hK K z0 z1 z2 y0 y1 y2
              obtain ⟨w6, hw6⟩ : ∃ z9, z9 = ((w5.setCell ⟨k6, 0, none⟩ (.bool qy)).setCell ⟨k6, 1, none⟩ (.slice ya yn yc)).setCell ⟨k6, 2, none⟩ (.slice yb ym yd) := ⟨_, rfl⟩
              rw [← hw6] at hH6 b6 K5_6 K6_6 F5_6 F6_6 P1_6 P2_6 ⊢
              clear hw6
              refine wpAnyH_done (by kernel_rfl) ?_ _
              exact hQ _ _ _ _ _ _ _ _ _ _ _ _ _ _ _ _ _ K5_6 K6_6 P1_6.rs P2_6.rs b6.out
end Go.Proofs.Ytmhicllhjiglkaa
