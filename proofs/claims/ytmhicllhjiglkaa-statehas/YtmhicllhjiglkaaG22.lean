import Derived.Test.YtmhicllhjiglkaaG21
namespace Go.Proofs.Ytmhicllhjiglkaa
open Go.RowKit
abbrev jnAct7 (X0 X1 X2 X5 X7 X8 X10 X11 X12 X13 X14 X15 X16 X17 X18 X19 X20 X21 X22 X23 X24 X25 X26 X27 : Value) (p q : Nat) (y9 y28 y29 y30 y31 y32 : Value) : Act := { tmps := #[X0, X1, X2, .pointer (some ⟨p, 0, none⟩), .pointer (some ⟨q, 0, none⟩), X5, .bool false, X7, X8, y9, X10, X11, X12, X13, X14, X15, X16, X17, X18, X19, X20, X21, X22, X23, X24, X25, X26, X27, y28, y29, y30, y31, y32, undef, undef, undef, undef, undef, undef, undef, undef, undef, undef, undef, undef, undef, undef, undef, undef, undef, undef, undef, undef, undef, undef, undef, undef, undef, undef, undef, undef, undef, undef, undef, undef, undef, undef, undef, undef, undef, undef, undef, undef, undef, undef, undef, undef, undef, undef, undef, undef, undef, undef, undef, undef, undef], defers := [] }
theorem to_J {w : World} {v : Value} {x : VS} {n : Nat} (h : Rs w v x.raw) (k : VOk n x) (hn : n ≤ 5000) : Calls Try.prog 11 #[v] w fun e w' => ∃ v', e = .returned v' ∧ Below w.heap.size w w' ∧ Rs w' v' x.raw := by
  obtain ⟨a, c, b, d, rfl, h1, h2, -⟩ := h
  have i3 := k.le
  have i1 := k.len
  refine (to_S a b c d x.raw.r x.raw.vs x.raw.ss w h1 h2 (by unfold VS.raw; dsimp only; rw [List.length_map]; omega) (by unfold VS.raw; dsimp only; omega) (k.inner hn)).mono ?_
  rintro e w' ⟨v', rfl, hR, hB⟩
  exact ⟨v', rfl, hB, hR.rs⟩
theorem Rn.form {w : World} {N : Nat} {v : Value} {s : S} (h : Rn w N v s) : ∃ (qj : Bool) (ja : Option Addr) (nj jc : Nat) (jb : Option Addr) (mj jd : Nat), v = .agg #[.bool qj, .slice ja nj jc, .slice jb mj jd] := by
  obtain ⟨a, c, b, d, rfl, -⟩ := h
  exact ⟨_, _, _, _, _, _, _, rfl⟩
theorem Rp.put {w : World} {k : Nat} {v : Value} {s : S} (h : Rp w [k] v s) (r : Bool) (va sa : Value) : Rp (st3 w k r va sa) [k] v s := h.of (fun _ t => .inl t) (fun j hj _ => st3_block w k r va sa j (fun e => hj (e ▸ List.mem_singleton.2 rfl)))
set_option maxRecDepth 100000 in
set_option maxHeartbeats 8000000 in
theorem jn7 {Q0 : Exit → Act → World → Prop} (hP : ∀ c (a : Act) d v w, Q0 (.panic c) (a.put d v) w → Q0 (.panic c) a w) (X0 X1 X2 X5 X7 X8 X10 X11 X12 X13 X14 X15 X16 X17 X18 X19 X20 X21 X22 X23 X24 X25 X26 X27 : Value) (p q : Nat) (q0 : Bool) (v0 s0 : Value) (q1 : Bool) (v1 s1 : Value) (x y : VS) (V : World) (hb3 : Bs V p q0 v0 s0) (hb4 : Bs V q q1 v1 s1)
    (hx : Rs V (.agg #[.bool q0, v0, s0]) x.raw) (hy : Rs V (.agg #[.bool q1, v1, s1]) y.raw) (ox : VOk 60 x) (oy : VOk 60 y)
    (hQ : ∀ (w : World) (k9 : Nat) (qj : Bool) (ja : Option Addr) (nj jc : Nat) (jb : Option Addr) (mj jd : Nat) (e29 e31 : Value), Bs w k9 qj (.slice ja nj jc) (.slice jb mj jd) → Rs w (.agg #[.bool qj, .slice ja nj jc, .slice jb mj jd]) (togV joinV x y).raw → Below V.heap.size V w → Q0 .normal (jnAct7 X0 X1 X2 X5 X7 X8 X10 X11 X12 X13 X14 X15 X16 X17 X18 X19 X20 X21 X22 X23 X24 X25 X26 X27 p q (.pointer (some ⟨k9, 0, none⟩)) (.agg #[.bool q0, v0, s0]) (e29) (.agg #[.bool q1, v1, s1]) (e31) (.agg #[.bool qj, .slice ja nj jc, .slice jb mj jd])) w) :
    (Code.region 3 #[{ dst := some 28, op := Op.load 25 (Operand.tmp 3), type := 25, pos := "law.go:131", after := #[], guard := none }, { dst := some 29, op := Op.call { callee := Callee.value (Operand.func 11), args := #[Operand.tmp 28], argTypes := #[25] }, type := 29, pos := "law.go:131", after := #[{ on := 0, ground := Ground.data }], guard := none }, { dst := some 30, op := Op.load 25 (Operand.tmp 4), type := 25, pos := "law.go:131", after := #[], guard := none }, { dst := some 31, op := Op.call { callee := Callee.value (Operand.func 11), args := #[Operand.tmp 30], argTypes := #[25] }, type := 29, pos := "law.go:131", after := #[{ on := 2, ground := Ground.data }, { on := 1, ground := Ground.chain }], guard := none }, { dst := some 32, op := Op.call { callee := Callee.value (Operand.func 14), args := #[Operand.tmp 29, Operand.tmp 31], argTypes := #[29, 29] }, type := 29, pos := "law.go:131", after := #[{ on := 1, ground := Ground.data }, { on := 3, ground := Ground.data }, { on := 3, ground := Ground.chain }], guard := none }, { dst := some 9, op := Op.alloc 29, type := 0, pos := "law.go:131", after := #[], guard := none }, { dst := none, op := Op.store 29 (Operand.tmp 9) (Operand.tmp 32), type := 0, pos := "law.go:131", after := #[{ on := 5, ground := Ground.data }, { on := 4, ground := Ground.data }, { on := 4, ground := Ground.chain }, { on := 0, ground := Ground.phase }, { on := 1, ground := Ground.phase }, { on := 2, ground := Ground.phase }, { on := 3, ground := Ground.phase }, { on := 4, ground := Ground.phase }, { on := 5, ground := Ground.phase }], guard := none }] true).wp Try.prog Q0 (jnAct7 X0 X1 X2 X5 X7 X8 X10 X11 X12 X13 X14 X15 X16 X17 X18 X19 X20 X21 X22 X23 X24 X25 X26 X27 p q (undef) (undef) (undef) (undef) (undef) (undef)) V := by
  dsimp only [jnAct7]
  have HX : Hid (∀ w', Below V.heap.size V w' → Rs w' (.agg #[.bool q0, v0, s0]) x.raw) := hide (fun w' h => hx.keep h)
  have HY : Hid (∀ w', Below V.heap.size V w' → Rs w' (.agg #[.bool q1, v1, s1]) y.raw) := hide (fun w' h => hy.keep h)
  have HS : Hid (∀ w', Below V.heap.size V w' → (w'.cell? ⟨p, 0, none⟩ = some (.bool q0) ∧ w'.cell? ⟨p, 1, none⟩ = some (v0) ∧ w'.cell? ⟨p, 2, none⟩ = some (s0) ∧ w'.cell? ⟨q, 0, none⟩ = some (.bool q1) ∧ w'.cell? ⟨q, 1, none⟩ = some (v1) ∧ w'.cell? ⟨q, 2, none⟩ = some (s1))) := hide (fun w' h => ⟨(hb3.keep h).c0, (hb3.keep h).c1, (hb3.keep h).c2, (hb4.keep h).c0, (hb4.keep h).c1, (hb4.keep h).c2⟩)
  clear hx hy hb3 hb4
  refine wp_region_held_drew (S := fun w' => w'.cell? ⟨p, 0, none⟩ = some (.bool q0) ∧ w'.cell? ⟨p, 1, none⟩ = some (v0) ∧ w'.cell? ⟨p, 2, none⟩ = some (s0) ∧ w'.cell? ⟨q, 0, none⟩ = some (.bool q1) ∧ w'.cell? ⟨q, 1, none⟩ = some (v1) ∧ w'.cell? ⟨q, 2, none⟩ = some (s1)) (by kernel_rfl) (HS.out _ (Below.refl _ _).drew) (fun hH0 => ?_)
  obtain ⟨w0, hw0⟩ : ∃ w0, w0 = V.drew := ⟨_, rfl⟩
  (try rw [← hw0] at hH0)
  rw [← hw0]
  have b0 : Hid (Below V.heap.size V w0) := hw0 ▸ hide (Below.refl _ _).drew
  clear hw0
  refine wpAnyH_take (i := 0) (oi := ({ dst := some 28, op := Op.load 25 (Operand.tmp 3), type := 25, pos := "law.go:131", after := #[], guard := none } : Oper)) (v := ?_) rfl (by kernel_rfl) (by kernel_rfl) (by kernel_rfl) (fun c a w h => hP c a _ _ w h) (Or.inl ⟨by rfl, ?_⟩) (by assumption) ?_
  rotate_left
  · (intro wz hSw; (try dsimp only at hSw); go_simp; try with_reducible rfl)
  simp only [Act.put, List.setIfInBounds_toArray, List.set_cons_zero, List.set_cons_succ]
  refine wpAnyH_take (i := 2) (oi := ({ dst := some 30, op := Op.load 25 (Operand.tmp 4), type := 25, pos := "law.go:131", after := #[], guard := none } : Oper)) (v := ?_) rfl (by kernel_rfl) (by kernel_rfl) (by kernel_rfl) (fun c a w h => hP c a _ _ w h) (Or.inl ⟨by rfl, ?_⟩) (by assumption) ?_
  rotate_left
  · (intro wz hSw; (try dsimp only at hSw); go_simp; try with_reducible rfl)
  simp only [Act.put, List.setIfInBounds_toArray, List.set_cons_zero, List.set_cons_succ]
  refine wpAnyH_ready (rs := [1, 5]) (by kernel_rfl) (by simp) ?_
  refine AllReadyH.cons (o := ({ dst := some 29, op := Op.call { callee := Callee.value (Operand.func 11), args := #[Operand.tmp 28], argTypes := #[25] }, type := 29, pos := "law.go:131", after := #[{ on := 0, ground := Ground.data }], guard := none } : Oper)) rfl (fun K hK => ?_) (AllReadyH.cons (o := ({ dst := some 9, op := Op.alloc 29, type := 0, pos := "law.go:131", after := #[], guard := none } : Oper)) rfl (fun K hK => ?_) AllReadyH.nil)
  · go_simp
    go_at_call 11
    refine (to_J (HX.out _ b0.out) ox (by omega)).mono ?_
    rintro eP1 w1 ⟨yP1, rfl, hb1, P1_1⟩
    have b1 := hide (b0.out.trans (hb1.mono b0.out.size))
    refine hK.out _ _ (HS.out _ b1.out) (fun hH1 => ?_)
    clear hK K hb1
    refine wpAnyH_ready (rs := [3, 5]) (by kernel_rfl) (by simp) ?_
    refine AllReadyH.cons (o := ({ dst := some 31, op := Op.call { callee := Callee.value (Operand.func 11), args := #[Operand.tmp 30], argTypes := #[25] }, type := 29, pos := "law.go:131", after := #[{ on := 2, ground := Ground.data }, { on := 1, ground := Ground.chain }], guard := none } : Oper)) rfl (fun K hK => ?_) (AllReadyH.cons (o := ({ dst := some 9, op := Op.alloc 29, type := 0, pos := "law.go:131", after := #[], guard := none } : Oper)) rfl (fun K hK => ?_) AllReadyH.nil)
    · go_simp
      go_at_call 11
      refine (to_J (HY.out _ b1.out) oy (by omega)).mono ?_
      rintro eP2 w2 ⟨yP2, rfl, hb2, P2_2⟩
      have b2 := hide (b1.out.trans (hb2.mono b1.out.size))
      have P1_2 := P1_1.keep hb2
      refine hK.out _ _ (HS.out _ b2.out) (fun hH2 => ?_)
      clear hK K hb2
      refine wpAnyH_ready (rs := [4, 5]) (by kernel_rfl) (by simp) ?_
      refine AllReadyH.cons (o := ({ dst := some 32, op := Op.call { callee := Callee.value (Operand.func 14), args := #[Operand.tmp 29, Operand.tmp 31], argTypes := #[29, 29] }, type := 29, pos := "law.go:131", after := #[{ on := 1, ground := Ground.data }, { on := 3, ground := Ground.data }, { on := 3, ground := Ground.chain }], guard := none } : Oper)) rfl (fun K hK => ?_) (AllReadyH.cons (o := ({ dst := some 9, op := Op.alloc 29, type := 0, pos := "law.go:131", after := #[], guard := none } : Oper)) rfl (fun K hK => ?_) AllReadyH.nil)
      · go_simp
        go_at_call 14
        refine (join_S P1_2 P2_2 ox oy (by omega) (by omega)).mono ?_
        rintro ej w3 ⟨yj, rfl, hR, hb3⟩
        have b3 := hide (b2.out.trans (hb3.mono b2.out.size))
        have J_3 := hR.rp (L := []) (by intro k hk; simp at hk)
        clear P1_2 P2_2
        obtain ⟨qj, ja, nj, jc, jb, mj, jd, hvj⟩ := hR.form
        subst hvj
        clear hR
        refine hK.out _ _ (HS.out _ b3.out) (fun hH3 => ?_)
        clear hK K hb3
        refine wpAnyH_ready (rs := [5]) (by kernel_rfl) (by simp) ?_
        refine AllReadyH.cons (o := ({ dst := some 9, op := Op.alloc 29, type := 0, pos := "law.go:131", after := #[], guard := none } : Oper)) rfl (fun K hK => ?_) AllReadyH.nil
        · go_simp
          have hb4 : Below w3.heap.size w3 (w3.alloc (.cells #[.bool false, .slice none 0 0, .slice none 0 0] 29)) := (Below.refl _ _).alloc (Nat.le_refl _) _
          have b4 := hide (b3.out.trans (hb4.mono b3.out.size))
          have K9_4 := Bs.new w3 false (.slice none 0 0) (.slice none 0 0) 29
          have F9_4 := Fs.new w3 false (.slice none 0 0) (.slice none 0 0) 29
          have nk := b3.out.size
          have J_4 := J_3.of (L' := [w3.heap.size]) (by intro k hk; simp at hk; subst hk; exact .inr (Nat.le_refl _)) (fun k _ hk => hb4.block k hk)
          refine hK.out _ _ (HS.out _ b4.out) (fun hH4 => ?_)
          clear hK K hb4
          obtain ⟨w4, hw4⟩ : ∃ z9, z9 = (w3.alloc (.cells #[.bool false, .slice none 0 0, .slice none 0 0] 29)) := ⟨_, rfl⟩
          rw [← hw4] at hH4 b4 K9_4 F9_4 J_4 ⊢
          clear hw4
          generalize w3.heap.size = k9 at *
          refine wpAnyH_ready (rs := [6]) (by kernel_rfl) (by simp) ?_
          refine AllReadyH.cons (o := ({ dst := none, op := Op.store 29 (Operand.tmp 9) (Operand.tmp 32), type := 0, pos := "law.go:131", after := #[{ on := 5, ground := Ground.data }, { on := 4, ground := Ground.data }, { on := 4, ground := Ground.chain }, { on := 0, ground := Ground.phase }, { on := 1, ground := Ground.phase }, { on := 2, ground := Ground.phase }, { on := 3, ground := Ground.phase }, { on := 4, ground := Ground.phase }, { on := 5, ground := Ground.phase }], guard := none } : Oper)) rfl (fun K hK => ?_) AllReadyH.nil
          · have z0 := K9_4.c0
            have z1 := K9_4.c1
            have z2 := K9_4.c2
            have y0 := F9_4.f0
            have y1 := F9_4.f1
            have y2 := F9_4.f2
            go_simp
            have K9_5 := K9_4.put3 qj (.slice ja nj jc) (.slice jb mj jd)
            have J_5 := J_4.put qj (.slice ja nj jc) (.slice jb mj jd)
            have b5 := hide (st3_below b4.out k9 nk qj (.slice ja nj jc) (.slice jb mj jd))
            unfold st3 at K9_5 J_5 b5
            refine hK.out _ _ (HS.out _ b5.out) (fun hH5 => ?_)
            clear hK K z0 z1 z2 y0 y1 y2
            refine wpAnyH_done (by kernel_rfl) ?_ _
            exact hQ _ _ _ _ _ _ _ _ _ _ _ K9_5 J_5.rs b5.out
      · go_simp
        have hb3 : Below w2.heap.size w2 (w2.alloc (.cells #[.bool false, .slice none 0 0, .slice none 0 0] 29)) := (Below.refl _ _).alloc (Nat.le_refl _) _
        have b3 := hide (b2.out.trans (hb3.mono b2.out.size))
        have P1_3 := P1_2.keep hb3
        have P2_3 := P2_2.keep hb3
        have K9_3 := Bs.new w2 false (.slice none 0 0) (.slice none 0 0) 29
        have F9_3 := Fs.new w2 false (.slice none 0 0) (.slice none 0 0) 29
        have nk := b2.out.size
        refine hK.out _ _ (HS.out _ b3.out) (fun hH3 => ?_)
        clear hK K hb3
        obtain ⟨w3, hw3⟩ : ∃ z9, z9 = (w2.alloc (.cells #[.bool false, .slice none 0 0, .slice none 0 0] 29)) := ⟨_, rfl⟩
        rw [← hw3] at hH3 b3 P1_3 P2_3 K9_3 F9_3 ⊢
        clear hw3
        generalize w2.heap.size = k9 at *
        refine wpAnyH_ready (rs := [4]) (by kernel_rfl) (by simp) ?_
        refine AllReadyH.cons (o := ({ dst := some 32, op := Op.call { callee := Callee.value (Operand.func 14), args := #[Operand.tmp 29, Operand.tmp 31], argTypes := #[29, 29] }, type := 29, pos := "law.go:131", after := #[{ on := 1, ground := Ground.data }, { on := 3, ground := Ground.data }, { on := 3, ground := Ground.chain }], guard := none } : Oper)) rfl (fun K hK => ?_) AllReadyH.nil
        · go_simp
          go_at_call 14
          refine (join_S P1_3 P2_3 ox oy (by omega) (by omega)).mono ?_
          rintro ej w4 ⟨yj, rfl, hR, hb4⟩
          have b4 := hide (b3.out.trans (hb4.mono b3.out.size))
          have J_4 := hR.rp (L := [k9]) (by intro k hk; simp at hk; subst hk; exact K9_3.lt)
          clear P1_3 P2_3
          have K9_4 := K9_3.keep hb4
          have F9_4 := F9_3.of (hb4.block _ K9_3.lt)
          obtain ⟨qj, ja, nj, jc, jb, mj, jd, hvj⟩ := hR.form
          subst hvj
          clear hR
          refine hK.out _ _ (HS.out _ b4.out) (fun hH4 => ?_)
          clear hK K hb4
          refine wpAnyH_ready (rs := [6]) (by kernel_rfl) (by simp) ?_
          refine AllReadyH.cons (o := ({ dst := none, op := Op.store 29 (Operand.tmp 9) (Operand.tmp 32), type := 0, pos := "law.go:131", after := #[{ on := 5, ground := Ground.data }, { on := 4, ground := Ground.data }, { on := 4, ground := Ground.chain }, { on := 0, ground := Ground.phase }, { on := 1, ground := Ground.phase }, { on := 2, ground := Ground.phase }, { on := 3, ground := Ground.phase }, { on := 4, ground := Ground.phase }, { on := 5, ground := Ground.phase }], guard := none } : Oper)) rfl (fun K hK => ?_) AllReadyH.nil
          · have z0 := K9_4.c0
            have z1 := K9_4.c1
            have z2 := K9_4.c2
            have y0 := F9_4.f0
            have y1 := F9_4.f1
            have y2 := F9_4.f2
            go_simp
            have K9_5 := K9_4.put3 qj (.slice ja nj jc) (.slice jb mj jd)
            have J_5 := J_4.put qj (.slice ja nj jc) (.slice jb mj jd)
            have b5 := hide (st3_below b4.out k9 nk qj (.slice ja nj jc) (.slice jb mj jd))
            unfold st3 at K9_5 J_5 b5
            refine hK.out _ _ (HS.out _ b5.out) (fun hH5 => ?_)
            clear hK K z0 z1 z2 y0 y1 y2
            refine wpAnyH_done (by kernel_rfl) ?_ _
            exact hQ _ _ _ _ _ _ _ _ _ _ _ K9_5 J_5.rs b5.out
    · go_simp
      have hb2 : Below w1.heap.size w1 (w1.alloc (.cells #[.bool false, .slice none 0 0, .slice none 0 0] 29)) := (Below.refl _ _).alloc (Nat.le_refl _) _
      have b2 := hide (b1.out.trans (hb2.mono b1.out.size))
      have P1_2 := P1_1.keep hb2
      have K9_2 := Bs.new w1 false (.slice none 0 0) (.slice none 0 0) 29
      have F9_2 := Fs.new w1 false (.slice none 0 0) (.slice none 0 0) 29
      have nk := b1.out.size
      refine hK.out _ _ (HS.out _ b2.out) (fun hH2 => ?_)
      clear hK K hb2
      obtain ⟨w2, hw2⟩ : ∃ z9, z9 = (w1.alloc (.cells #[.bool false, .slice none 0 0, .slice none 0 0] 29)) := ⟨_, rfl⟩
      rw [← hw2] at hH2 b2 P1_2 K9_2 F9_2 ⊢
      clear hw2
      generalize w1.heap.size = k9 at *
      refine wpAnyH_ready (rs := [3]) (by kernel_rfl) (by simp) ?_
      refine AllReadyH.cons (o := ({ dst := some 31, op := Op.call { callee := Callee.value (Operand.func 11), args := #[Operand.tmp 30], argTypes := #[25] }, type := 29, pos := "law.go:131", after := #[{ on := 2, ground := Ground.data }, { on := 1, ground := Ground.chain }], guard := none } : Oper)) rfl (fun K hK => ?_) AllReadyH.nil
      · go_simp
        go_at_call 11
        refine (to_J (HY.out _ b2.out) oy (by omega)).mono ?_
        rintro eP2 w3 ⟨yP2, rfl, hb3, P2_3⟩
        have b3 := hide (b2.out.trans (hb3.mono b2.out.size))
        have P1_3 := P1_2.keep hb3
        have K9_3 := K9_2.keep hb3
        have F9_3 := F9_2.of (hb3.block _ K9_2.lt)
        refine hK.out _ _ (HS.out _ b3.out) (fun hH3 => ?_)
        clear hK K hb3
        refine wpAnyH_ready (rs := [4]) (by kernel_rfl) (by simp) ?_
        refine AllReadyH.cons (o := ({ dst := some 32, op := Op.call { callee := Callee.value (Operand.func 14), args := #[Operand.tmp 29, Operand.tmp 31], argTypes := #[29, 29] }, type := 29, pos := "law.go:131", after := #[{ on := 1, ground := Ground.data }, { on := 3, ground := Ground.data }, { on := 3, ground := Ground.chain }], guard := none } : Oper)) rfl (fun K hK => ?_) AllReadyH.nil
        · go_simp
          go_at_call 14
          refine (join_S P1_3 P2_3 ox oy (by omega) (by omega)).mono ?_
          rintro ej w4 ⟨yj, rfl, hR, hb4⟩
          have b4 := hide (b3.out.trans (hb4.mono b3.out.size))
          have J_4 := hR.rp (L := [k9]) (by intro k hk; simp at hk; subst hk; exact K9_3.lt)
          clear P1_3 P2_3
          have K9_4 := K9_3.keep hb4
          have F9_4 := F9_3.of (hb4.block _ K9_3.lt)
          obtain ⟨qj, ja, nj, jc, jb, mj, jd, hvj⟩ := hR.form
          subst hvj
          clear hR
          refine hK.out _ _ (HS.out _ b4.out) (fun hH4 => ?_)
          clear hK K hb4
          refine wpAnyH_ready (rs := [6]) (by kernel_rfl) (by simp) ?_
          refine AllReadyH.cons (o := ({ dst := none, op := Op.store 29 (Operand.tmp 9) (Operand.tmp 32), type := 0, pos := "law.go:131", after := #[{ on := 5, ground := Ground.data }, { on := 4, ground := Ground.data }, { on := 4, ground := Ground.chain }, { on := 0, ground := Ground.phase }, { on := 1, ground := Ground.phase }, { on := 2, ground := Ground.phase }, { on := 3, ground := Ground.phase }, { on := 4, ground := Ground.phase }, { on := 5, ground := Ground.phase }], guard := none } : Oper)) rfl (fun K hK => ?_) AllReadyH.nil
          · have z0 := K9_4.c0
            have z1 := K9_4.c1
            have z2 := K9_4.c2
            have y0 := F9_4.f0
            have y1 := F9_4.f1
            have y2 := F9_4.f2
            go_simp
            have K9_5 := K9_4.put3 qj (.slice ja nj jc) (.slice jb mj jd)
            have J_5 := J_4.put qj (.slice ja nj jc) (.slice jb mj jd)
            have b5 := hide (st3_below b4.out k9 nk qj (.slice ja nj jc) (.slice jb mj jd))
            unfold st3 at K9_5 J_5 b5
            refine hK.out _ _ (HS.out _ b5.out) (fun hH5 => ?_)
            clear hK K z0 z1 z2 y0 y1 y2
            refine wpAnyH_done (by kernel_rfl) ?_ _
            exact hQ _ _ _ _ _ _ _ _ _ _ _ K9_5 J_5.rs b5.out
  · go_simp
    have hb1 : Below w0.heap.size w0 (w0.alloc (.cells #[.bool false, .slice none 0 0, .slice none 0 0] 29)) := (Below.refl _ _).alloc (Nat.le_refl _) _
    have b1 := hide (b0.out.trans (hb1.mono b0.out.size))
    have K9_1 := Bs.new w0 false (.slice none 0 0) (.slice none 0 0) 29
    have F9_1 := Fs.new w0 false (.slice none 0 0) (.slice none 0 0) 29
    have nk := b0.out.size
    refine hK.out _ _ (HS.out _ b1.out) (fun hH1 => ?_)
    clear hK K hb1
    obtain ⟨w1, hw1⟩ : ∃ z9, z9 = (w0.alloc (.cells #[.bool false, .slice none 0 0, .slice none 0 0] 29)) := ⟨_, rfl⟩
    rw [← hw1] at hH1 b1 K9_1 F9_1 ⊢
    clear hw1
    generalize w0.heap.size = k9 at *
    refine wpAnyH_ready (rs := [1]) (by kernel_rfl) (by simp) ?_
    refine AllReadyH.cons (o := ({ dst := some 29, op := Op.call { callee := Callee.value (Operand.func 11), args := #[Operand.tmp 28], argTypes := #[25] }, type := 29, pos := "law.go:131", after := #[{ on := 0, ground := Ground.data }], guard := none } : Oper)) rfl (fun K hK => ?_) AllReadyH.nil
    · go_simp
      go_at_call 11
      refine (to_J (HX.out _ b1.out) ox (by omega)).mono ?_
      rintro eP1 w2 ⟨yP1, rfl, hb2, P1_2⟩
      have b2 := hide (b1.out.trans (hb2.mono b1.out.size))
      have K9_2 := K9_1.keep hb2
      have F9_2 := F9_1.of (hb2.block _ K9_1.lt)
      refine hK.out _ _ (HS.out _ b2.out) (fun hH2 => ?_)
      clear hK K hb2
      refine wpAnyH_ready (rs := [3]) (by kernel_rfl) (by simp) ?_
      refine AllReadyH.cons (o := ({ dst := some 31, op := Op.call { callee := Callee.value (Operand.func 11), args := #[Operand.tmp 30], argTypes := #[25] }, type := 29, pos := "law.go:131", after := #[{ on := 2, ground := Ground.data }, { on := 1, ground := Ground.chain }], guard := none } : Oper)) rfl (fun K hK => ?_) AllReadyH.nil
      · go_simp
        go_at_call 11
        refine (to_J (HY.out _ b2.out) oy (by omega)).mono ?_
        rintro eP2 w3 ⟨yP2, rfl, hb3, P2_3⟩
        have b3 := hide (b2.out.trans (hb3.mono b2.out.size))
        have K9_3 := K9_2.keep hb3
        have F9_3 := F9_2.of (hb3.block _ K9_2.lt)
        have P1_3 := P1_2.keep hb3
        refine hK.out _ _ (HS.out _ b3.out) (fun hH3 => ?_)
        clear hK K hb3
        refine wpAnyH_ready (rs := [4]) (by kernel_rfl) (by simp) ?_
        refine AllReadyH.cons (o := ({ dst := some 32, op := Op.call { callee := Callee.value (Operand.func 14), args := #[Operand.tmp 29, Operand.tmp 31], argTypes := #[29, 29] }, type := 29, pos := "law.go:131", after := #[{ on := 1, ground := Ground.data }, { on := 3, ground := Ground.data }, { on := 3, ground := Ground.chain }], guard := none } : Oper)) rfl (fun K hK => ?_) AllReadyH.nil
        · go_simp
          go_at_call 14
          refine (join_S P1_3 P2_3 ox oy (by omega) (by omega)).mono ?_
          rintro ej w4 ⟨yj, rfl, hR, hb4⟩
          have b4 := hide (b3.out.trans (hb4.mono b3.out.size))
          have J_4 := hR.rp (L := [k9]) (by intro k hk; simp at hk; subst hk; exact K9_3.lt)
          clear P1_3 P2_3
          have K9_4 := K9_3.keep hb4
          have F9_4 := F9_3.of (hb4.block _ K9_3.lt)
          obtain ⟨qj, ja, nj, jc, jb, mj, jd, hvj⟩ := hR.form
          subst hvj
          clear hR
          refine hK.out _ _ (HS.out _ b4.out) (fun hH4 => ?_)
          clear hK K hb4
          refine wpAnyH_ready (rs := [6]) (by kernel_rfl) (by simp) ?_
          refine AllReadyH.cons (o := ({ dst := none, op := Op.store 29 (Operand.tmp 9) (Operand.tmp 32), type := 0, pos := "law.go:131", after := #[{ on := 5, ground := Ground.data }, { on := 4, ground := Ground.data }, { on := 4, ground := Ground.chain }, { on := 0, ground := Ground.phase }, { on := 1, ground := Ground.phase }, { on := 2, ground := Ground.phase }, { on := 3, ground := Ground.phase }, { on := 4, ground := Ground.phase }, { on := 5, ground := Ground.phase }], guard := none } : Oper)) rfl (fun K hK => ?_) AllReadyH.nil
          · have z0 := K9_4.c0
            have z1 := K9_4.c1
            have z2 := K9_4.c2
            have y0 := F9_4.f0
            have y1 := F9_4.f1
            have y2 := F9_4.f2
            go_simp
            have K9_5 := K9_4.put3 qj (.slice ja nj jc) (.slice jb mj jd)
            have J_5 := J_4.put qj (.slice ja nj jc) (.slice jb mj jd)
            have b5 := hide (st3_below b4.out k9 nk qj (.slice ja nj jc) (.slice jb mj jd))
            unfold st3 at K9_5 J_5 b5
            refine hK.out _ _ (HS.out _ b5.out) (fun hH5 => ?_)
            clear hK K z0 z1 z2 y0 y1 y2
            refine wpAnyH_done (by kernel_rfl) ?_ _
            exact hQ _ _ _ _ _ _ _ _ _ _ _ K9_5 J_5.rs b5.out
end Go.Proofs.Ytmhicllhjiglkaa
