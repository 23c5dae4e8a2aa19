import Derived.Test.YtmhicllhjiglkaaG25
namespace Go.Proofs.Ytmhicllhjiglkaa
open Go.RowKit
theorem fix_pre {w : World} {a b : Option Addr} {c d : Nat} {r : Bool} {vs : List R} {ss : List (List Int)} (hv : RV w a vs) (hs : RR w b ss) (hvi : ∀ (m : Nat) (x : R), vs[m]? = some x → i64 x.n ∧ i64 x.lo ∧ i64 x.hi) (w' : World) (h : Below w.heap.size w w') :
    Calls Try.prog 10 #[.agg #[.bool r, .slice a vs.length c, .slice b ss.length d]] w' fun e w'' => ∃ v, e = .returned v ∧ Below w'.heap.size w' w'' ∧ Pre w'' v := by
  refine (fix_any a b c d r vs ss w' (hv.keep h) (hs.keep h) hvi).mono ?_
  rintro e w'' ⟨v, rfl, hB, s, hR, us, hO⟩
  exact ⟨v, rfl, hB, s, us, hR.rs, hO⟩
/-- all that stands behind 'j := ..' -/
structure Al (w0 w : World) (N k7 k8 k9 k10 : Nat) (q0 q1 q2 q3 : Bool) (v0 s0 v1 s1 v2 s2 v3 s3 : Value) (x y z : VS) : Prop where
  b7 : Bs w k7 q0 v0 s0
  b8 : Bs w k8 q1 v1 s1
  b9 : Bs w k9 q2 v2 s2
  b10 : Bs w k10 q3 v3 s3
  rx : Rs w (.agg #[.bool q0, v0, s0]) x.raw
  ry : Rs w (.agg #[.bool q1, v1, s1]) y.raw
  rz : Rs w (.agg #[.bool q2, v2, s2]) z.raw
  rj : Rs w (.agg #[.bool q3, v3, s3]) (togV joinV x y).raw
  bel : Below N w0 w
  le : N ≤ w.heap.size
theorem Al.keep {w0 w w' : World} {N k7 k8 k9 k10 : Nat} {q0 q1 q2 q3 : Bool} {v0 s0 v1 s1 v2 s2 v3 s3 : Value} {x y z : VS} (h : Al w0 w N k7 k8 k9 k10 q0 q1 q2 q3 v0 s0 v1 s1 v2 s2 v3 s3 x y z) (hb : Below w.heap.size w w') : Al w0 w' N k7 k8 k9 k10 q0 q1 q2 q3 v0 s0 v1 s1 v2 s2 v3 s3 x y z :=
  ⟨h.b7.keep hb, h.b8.keep hb, h.b9.keep hb, h.b10.keep hb, h.rx.keep hb, h.ry.keep hb, h.rz.keep hb, h.rj.keep hb, h.bel.trans (hb.mono h.le), Nat.le_trans h.le hb.size⟩
theorem joinJ {w : World} {v1 v2 : Value} {x y : VS} {n m : Nat} (h1 : Rs w v1 x.raw) (h2 : Rs w v2 y.raw) (k1 : VOk n x) (k2 : VOk m y) (hn : n ≤ 5000) (hm : m ≤ 5000) :
    Calls Try.prog 14 #[v1, v2] w fun e w' => ∃ v, e = .returned v ∧ Below w.heap.size w w' ∧ Rs w' v (togV joinV x y).raw := by
  refine (join_S h1 h2 k1 k2 hn hm).mono ?_
  rintro e w' ⟨v, rfl, hR, hB⟩
  exact ⟨v, rfl, hB, hR.rs⟩
theorem equalT {w : World} {v1 v2 : Value} {x y : VS} {n m : Nat} (h1 : Rs w v1 x.raw) (h2 : Rs w v2 y.raw) (k1 : VOk n x) (k2 : VOk m y) (hn : n ≤ 5000) (hm : m ≤ 5000) (e : x = y) :
    Calls Try.prog 20 #[v1, v2] w fun e w' => e = .returned (.bool true) ∧ Below w.heap.size w w' := by
  have l1 : x.raw.vs.length ≤ 100000 := by have := k1.le; unfold VS.raw; dsimp only; rw [List.length_map]; omega
  have l2 : y.raw.vs.length ≤ 100000 := by have := k2.le; unfold VS.raw; dsimp only; rw [List.length_map]; omega
  have l3 : x.raw.ss.length ≤ 100000 := by have := k1.le; have := k1.len; unfold VS.raw; dsimp only; omega
  have l4 : y.raw.ss.length ≤ 100000 := by have := k2.le; have := k2.len; unfold VS.raw; dsimp only; omega
  refine (equal_S h1 h2 l1 l2 l3 l4 (fun l hl => by have := (k1.up l hl).2; omega) (fun l hl => by have := (k2.up l hl).2; omega)).mono ?_
  rintro ex w' ⟨bv, rfl, hB, hi⟩
  obtain rfl := hi.2 (by rw [e])
  exact ⟨rfl, hB⟩
set_option maxRecDepth 100000 in
set_option maxHeartbeats 8000000 in
theorem stateJoins_walk (a0 b0 a1 b1 a2 b2 : Option Addr) (c0 d0 c1 d1 c2 d2 : Nat) (r0 r1 r2 : Bool) (vs0 vs1 vs2 : List R) (ss0 ss1 ss2 : List (List Int)) (w : World)
    (hv0 : RV w a0 vs0) (hs0 : RR w b0 ss0) (hi0 : ∀ (m : Nat) (x : R), vs0[m]? = some x → i64 x.n ∧ i64 x.lo ∧ i64 x.hi)
    (hv1 : RV w a1 vs1) (hs1 : RR w b1 ss1) (hi1 : ∀ (m : Nat) (x : R), vs1[m]? = some x → i64 x.n ∧ i64 x.lo ∧ i64 x.hi)
    (hv2 : RV w a2 vs2) (hs2 : RR w b2 ss2) (hi2 : ∀ (m : Nat) (x : R), vs2[m]? = some x → i64 x.n ∧ i64 x.lo ∧ i64 x.hi) :
    Calls Try.prog 8 #[.agg #[.bool r0, .slice a0 vs0.length c0, .slice b0 ss0.length d0], .agg #[.bool r1, .slice a1 vs1.length c1, .slice b1 ss1.length d1], .agg #[.bool r2, .slice a2 vs2.length c2, .slice b2 ss2.length d2]] w fun e w' => e = .returned (.bool true) ∧ Below w.heap.size w w' := by
  have cA := fix_pre (c := c0) (d := d0) (r := r0) hv0 hs0 hi0
  have cB := fix_pre (c := c1) (d := d1) (r := r1) hv1 hs1 hi1
  have cC := fix_pre (c := c2) (d := d2) (r := r2) hv2 hs2 hi2
  clear hv0 hs0 hi0 hv1 hs1 hi1 hv2 hs2 hi2
  go_enter Try.func8, Try.ntmps8
  go_upto_region 1 with fail
  go_name_world W hW
  have hS : sjS w.heap.size r0 (.slice a0 vs0.length c0) (.slice b0 ss0.length d0) r1 (.slice a1 vs1.length c1) (.slice b1 ss1.length d1) r2 (.slice a2 vs2.length c2) (.slice b2 ss2.length d2) w W := by
    obtain ⟨B0, -, B1, -, B2, -, u⟩ := boxes3 w _ _ _ _ _ _ _ _ _ _ _ _ W hW
    exact ⟨B0, B1, B2, u⟩
  clear hW
  obtain ⟨N, hN⟩ : ∃ z9, z9 = w.heap.size := ⟨_, rfl⟩
  rw [← hN] at hS cA cB cC ⊢
  have HN : Hid (N = w.heap.size) := hN
  clear hN
  refine sj_region _ (fun _ _ d _ _ h => by cases d <;> exact h) N r0 _ _ r1 _ _ r2 _ _ w cA cB cC ?_ W hS
  clear cA cB cC hS W
  intro v k7 k8 k9 e12 e15 e18 q0 v0 s0 q1 v1 s1 q2 v2 s2 x y z K7 K8 K9 D0 D1 D2 hb hl n7 n8 n9
  dsimp only [sjAct]
  have o0 := D0.1
  have o1 := D1.1
  have o2 := D2.1
  have H0 : Hid (Bs v k7 q0 v0 s0 ∧ Bs v k8 q1 v1 s1 ∧ Bs v k9 q2 v2 s2 ∧ Rs v (.agg #[.bool q0, v0, s0]) x.raw ∧ Rs v (.agg #[.bool q1, v1, s1]) y.raw ∧ Rs v (.agg #[.bool q2, v2, s2]) z.raw ∧ Below N w v ∧ N ≤ v.heap.size) := ⟨K7, K8, K9, D0.2.rs, D1.2.rs, D2.2.rs, hb, Nat.le_of_lt hl⟩
  have cJ := join_S (w := v) H0.out.2.2.2.1 H0.out.2.2.2.2.1 o0 o1 (by omega) (by omega)
  have e0 := K7.c0
  have e1 := K7.c1
  have e2 := K7.c2
  have f0 := K8.c0
  have f1 := K8.c1
  have f2 := K8.c2
  have HO := hide (And.intro o0 (And.intro o1 o2))
  clear K7 K8 K9 D0 D1 D2 hb hl o0 o1 o2 n7 n8 n9
  go_upto_region 3 with (go_at_call 14; refine cJ.mono ?_; rintro e wK ⟨vj, rfl, hR, hB⟩; have hR2 := hide hR; obtain ⟨a5, c5, b5, d5, hv5, -⟩ := hR; subst hv5; replace hB := hide hB; clear cJ)
  go_name_world W3 hW3
  obtain ⟨k10, hk10⟩ : ∃ z9, z9 = wK.heap.size := ⟨_, rfl⟩
  obtain ⟨xj, hxj⟩ : ∃ z9, z9 = togV joinV x y := ⟨_, rfl⟩
  obtain ⟨q3, hq3⟩ : ∃ z9, z9 = (togV joinV x y).raw.r := ⟨_, rfl⟩
  obtain ⟨v3, hv3⟩ : ∃ z9, z9 = Value.slice a5 (togV joinV x y).raw.vs.length c5 := ⟨_, rfl⟩
  obtain ⟨s3, hs3⟩ : ∃ z9, z9 = Value.slice b5 (togV joinV x y).raw.ss.length d5 := ⟨_, rfl⟩
  rw [← hq3, ← hv3, ← hs3] at hW3 hR2
  rw [← hk10]
  have HA : Hid (Al w W3 N k7 k8 k9 k10 q0 q1 q2 q3 v0 s0 v1 s1 v2 s2 v3 s3 x y z) := by
    obtain ⟨B, -, u⟩ := box1 wK _ _ _ _ W3 hW3
    obtain ⟨t1, t2, t3, t4, t5, t6, t7, t8⟩ := H0.out
    have g := hB.out.trans (u.mono hB.out.size)
    refine hide ⟨t1.keep g, t2.keep g, t3.keep g, hk10 ▸ B, t4.keep g, t5.keep g, t6.keep g, hR2.out.rs.keep u, t7.trans (g.mono t8), Nat.le_trans t8 g.size⟩
  clear hW3 H0 hR2 hB hq3 hv3 hs3 hxj xj hk10 wK e0 e1 e2 f0 f1 f2
  have O4 := hide (tog_ok join_ok HO.out.1 HO.out.2.1)
  have O5 := hide (tog_ok join_ok HO.out.2.1 HO.out.1)
  have O6 := hide (tog_ok join_ok HO.out.2.1 HO.out.2.2)
  have O7 := hide (tog_ok join_ok O4.out HO.out.2.2)
  have O8 := hide (tog_ok join_ok HO.out.1 O6.out)
  have O9 := hide (tog_ok join_ok HO.out.1 HO.out.1)
  have E1 := hide (tog_comm HO.out.1 HO.out.2.1)
  have E2 := hide (tog_assoc HO.out.1 HO.out.2.1 HO.out.2.2)
  have E3 := hide (tog_idem HO.out.1)
  have HS : Hid (∀ w', Below W3.heap.size W3 w' → (w'.cell? ⟨k7, 0, none⟩ = some (.bool q0) ∧ w'.cell? ⟨k7, 1, none⟩ = some (v0) ∧ w'.cell? ⟨k7, 2, none⟩ = some (s0) ∧ w'.cell? ⟨k8, 0, none⟩ = some (.bool q1) ∧ w'.cell? ⟨k8, 1, none⟩ = some (v1) ∧ w'.cell? ⟨k8, 2, none⟩ = some (s1) ∧ w'.cell? ⟨k9, 0, none⟩ = some (.bool q2) ∧ w'.cell? ⟨k9, 1, none⟩ = some (v2) ∧ w'.cell? ⟨k9, 2, none⟩ = some (s2) ∧ w'.cell? ⟨k10, 0, none⟩ = some (.bool q3) ∧ w'.cell? ⟨k10, 1, none⟩ = some (v3) ∧ w'.cell? ⟨k10, 2, none⟩ = some (s3))) := fun w' h => by
    have t := HA.out.keep h
    exact ⟨t.b7.c0, t.b7.c1, t.b7.c2, t.b8.c0, t.b8.c1, t.b8.c2, t.b9.c0, t.b9.c1, t.b9.c2, t.b10.c0, t.b10.c1, t.b10.c2⟩
  refine wp_region_held_drew (S := fun w' => w'.cell? ⟨k7, 0, none⟩ = some (.bool q0) ∧ w'.cell? ⟨k7, 1, none⟩ = some (v0) ∧ w'.cell? ⟨k7, 2, none⟩ = some (s0) ∧ w'.cell? ⟨k8, 0, none⟩ = some (.bool q1) ∧ w'.cell? ⟨k8, 1, none⟩ = some (v1) ∧ w'.cell? ⟨k8, 2, none⟩ = some (s1) ∧ w'.cell? ⟨k9, 0, none⟩ = some (.bool q2) ∧ w'.cell? ⟨k9, 1, none⟩ = some (v2) ∧ w'.cell? ⟨k9, 2, none⟩ = some (s2) ∧ w'.cell? ⟨k10, 0, none⟩ = some (.bool q3) ∧ w'.cell? ⟨k10, 1, none⟩ = some (v3) ∧ w'.cell? ⟨k10, 2, none⟩ = some (s3)) (by kernel_rfl) (HS.out _ (Below.refl _ _).drew) (fun hH0 => ?_)
  obtain ⟨w0, hw0⟩ : ∃ w0, w0 = W3.drew := ⟨_, rfl⟩
  (try rw [← hw0] at hH0)
  rw [← hw0]
  have b0 : Hid (Below W3.heap.size W3 w0) := hw0 ▸ hide (Below.refl _ _).drew
  clear hw0
  refine wpAnyH_ready (rs := [0]) (by kernel_rfl) (by simp) ?_
  refine AllReadyH.cons (o := ({ dst := some 23, op := Op.call { callee := Callee.value (Operand.func 12), args := #[], argTypes := #[] }, type := 4, pos := "law.go:145", after := #[], guard := none } : Oper)) rfl (fun K hK => ?_) AllReadyH.nil
  · go_simp
    go_at_call 12
    refine (told_any _).mono ?_
    rintro e w1 ⟨rfl, hb1⟩
    have b1 := hide (b0.out.trans (hb1.mono b0.out.size))
    refine hK.out _ _ (HS.out _ b1.out) (fun hH1 => ?_)
    clear hK K hb1
    refine wpAnyH_take (i := 1) (oi := ({ dst := some 24, op := Op.unOp UnOp.not 4 (Operand.tmp 23), type := 4, pos := "law.go:145", after := #[{ on := 0, ground := Ground.data }], guard := none } : Oper)) (v := ?_) rfl (by kernel_rfl) (by kernel_rfl) (by kernel_rfl) (fun _ _ _ h => h) (Or.inl ⟨by rfl, ?_⟩) (by assumption) ?_
    rotate_left
    · (intro wz hSw; (try dsimp only at hSw); go_simp; try with_reducible rfl)
    simp only [Act.put, List.setIfInBounds_toArray, List.set_cons_zero, List.set_cons_succ]
    refine wpAnyH_take (i := 2) (oi := ({ dst := some 25, op := Op.move (Operand.tmp 24), type := 4, pos := "law.go:145", after := #[{ on := 1, ground := Ground.data }, { on := 0, ground := Ground.chain }], guard := none } : Oper)) (v := ?_) rfl (by kernel_rfl) (by kernel_rfl) (by kernel_rfl) (fun _ _ _ h => h) (Or.inl ⟨by rfl, ?_⟩) (by assumption) ?_
    rotate_left
    · (intro wz hSw; (try dsimp only at hSw); go_simp; try with_reducible rfl)
    simp only [Act.put, List.setIfInBounds_toArray, List.set_cons_zero, List.set_cons_succ]
    refine wpAnyH_take (i := 3) (oi := ({ dst := some 26, op := Op.load 29 (Operand.tmp 10), type := 29, pos := "law.go:145", after := #[{ on := 2, ground := Ground.guard }], guard := some (2, false) } : Oper)) (v := ?_) rfl (by kernel_rfl) (by kernel_rfl) (by kernel_rfl) (fun _ _ _ h => h) (Or.inl ⟨by rfl, ?_⟩) (by assumption) ?_
    rotate_left
    · (intro wz hSw; (try dsimp only at hSw); go_simp; try with_reducible rfl)
    simp only [Act.put, List.setIfInBounds_toArray, List.set_cons_zero, List.set_cons_succ]
    refine wpAnyH_take (i := 4) (oi := ({ dst := some 27, op := Op.load 29 (Operand.tmp 8), type := 29, pos := "law.go:145", after := #[{ on := 2, ground := Ground.guard }], guard := some (2, false) } : Oper)) (v := ?_) rfl (by kernel_rfl) (by kernel_rfl) (by kernel_rfl) (fun _ _ _ h => h) (Or.inl ⟨by rfl, ?_⟩) (by assumption) ?_
    rotate_left
    · (intro wz hSw; (try dsimp only at hSw); go_simp; try with_reducible rfl)
    simp only [Act.put, List.setIfInBounds_toArray, List.set_cons_zero, List.set_cons_succ]
    refine wpAnyH_take (i := 5) (oi := ({ dst := some 28, op := Op.load 29 (Operand.tmp 7), type := 29, pos := "law.go:145", after := #[{ on := 2, ground := Ground.guard }], guard := some (2, false) } : Oper)) (v := ?_) rfl (by kernel_rfl) (by kernel_rfl) (by kernel_rfl) (fun _ _ _ h => h) (Or.inl ⟨by rfl, ?_⟩) (by assumption) ?_
    rotate_left
    · (intro wz hSw; (try dsimp only at hSw); go_simp; try with_reducible rfl)
    simp only [Act.put, List.setIfInBounds_toArray, List.set_cons_zero, List.set_cons_succ]
    refine wpAnyH_ready (rs := [6]) (by kernel_rfl) (by simp) ?_
    refine AllReadyH.cons (o := ({ dst := some 29, op := Op.call { callee := Callee.value (Operand.func 14), args := #[Operand.tmp 27, Operand.tmp 28], argTypes := #[29, 29] }, type := 29, pos := "law.go:145", after := #[{ on := 4, ground := Ground.data }, { on := 5, ground := Ground.data }, { on := 2, ground := Ground.chain }, { on := 2, ground := Ground.guard }], guard := some (2, false) } : Oper)) rfl (fun K hK => ?_) AllReadyH.nil
    · go_simp
      go_at_call 14
      refine (joinJ (HA.out.keep b1.out).ry (HA.out.keep b1.out).rx HO.out.2.1 HO.out.1 (by omega) (by omega)).mono ?_
      rintro e w2 ⟨vRa, rfl, hb2, hR2⟩
      have Ra_2 := hide hR2
      clear hR2
      have b2 := hide (b1.out.trans (hb2.mono b1.out.size))
      refine hK.out _ _ (HS.out _ b2.out) (fun hH2 => ?_)
      clear hK K hb2
      refine wpAnyH_ready (rs := [7]) (by kernel_rfl) (by simp) ?_
      refine AllReadyH.cons (o := ({ dst := some 30, op := Op.call { callee := Callee.value (Operand.func 20), args := #[Operand.tmp 26, Operand.tmp 29], argTypes := #[29, 29] }, type := 4, pos := "law.go:145", after := #[{ on := 3, ground := Ground.data }, { on := 6, ground := Ground.data }, { on := 6, ground := Ground.chain }, { on := 2, ground := Ground.guard }], guard := some (2, false) } : Oper)) rfl (fun K hK => ?_) AllReadyH.nil
      · go_simp
        go_at_call 20
        refine (equalT (HA.out.keep b2.out).rj Ra_2.out O4.out O5.out (by omega) (by omega) E1.out).mono ?_
        rintro e w3 ⟨rfl, hb3⟩
        have b3 := hide (b2.out.trans (hb3.mono b2.out.size))
        refine hK.out _ _ (HS.out _ b3.out) (fun hH3 => ?_)
        clear hK K hb3
        refine wpAnyH_take (i := 8) (oi := ({ dst := some 31, op := Op.unOp UnOp.not 4 (Operand.tmp 30), type := 4, pos := "law.go:145", after := #[{ on := 7, ground := Ground.data }, { on := 2, ground := Ground.guard }], guard := some (2, false) } : Oper)) (v := ?_) rfl (by kernel_rfl) (by kernel_rfl) (by kernel_rfl) (fun _ _ _ h => h) (Or.inl ⟨by rfl, ?_⟩) (by assumption) ?_
        rotate_left
        · (intro wz hSw; (try dsimp only at hSw); go_simp; try with_reducible rfl)
        simp only [Act.put, List.setIfInBounds_toArray, List.set_cons_zero, List.set_cons_succ]
        refine wpAnyH_take (i := 9) (oi := ({ dst := some 32, op := Op.pick (Operand.tmp 25) (Operand.const (Value.bool true)) (Operand.tmp 31), type := 4, pos := "law.go:145", after := #[{ on := 2, ground := Ground.data }, { on := 8, ground := Ground.data }], guard := none } : Oper)) (v := ?_) rfl (by kernel_rfl) (by kernel_rfl) (by kernel_rfl) (fun _ _ _ h => h) (Or.inl ⟨by rfl, ?_⟩) (by assumption) ?_
        rotate_left
        · (intro wz hSw; (try dsimp only at hSw); go_simp; try with_reducible rfl)
        simp only [Act.put, List.setIfInBounds_toArray, List.set_cons_zero, List.set_cons_succ]
        refine wpAnyH_take (i := 10) (oi := ({ dst := some 33, op := Op.move (Operand.tmp 32), type := 4, pos := "law.go:145", after := #[{ on := 9, ground := Ground.data }, { on := 7, ground := Ground.chain }], guard := none } : Oper)) (v := ?_) rfl (by kernel_rfl) (by kernel_rfl) (by kernel_rfl) (fun _ _ _ h => h) (Or.inl ⟨by rfl, ?_⟩) (by assumption) ?_
        rotate_left
        · (intro wz hSw; (try dsimp only at hSw); go_simp; try with_reducible rfl)
        simp only [Act.put, List.setIfInBounds_toArray, List.set_cons_zero, List.set_cons_succ]
        refine wpAnyH_take (i := 11) (oi := ({ dst := some 34, op := Op.load 29 (Operand.tmp 10), type := 29, pos := "law.go:145", after := #[{ on := 10, ground := Ground.guard }], guard := some (10, false) } : Oper)) (v := ?_) rfl (by kernel_rfl) (by kernel_rfl) (by kernel_rfl) (fun _ _ _ h => h) (Or.inl ⟨by rfl, ?_⟩) (by assumption) ?_
        rotate_left
        · (intro wz hSw; (try dsimp only at hSw); go_simp; try with_reducible rfl)
        simp only [Act.put, List.setIfInBounds_toArray, List.set_cons_zero, List.set_cons_succ]
        refine wpAnyH_take (i := 12) (oi := ({ dst := some 35, op := Op.load 29 (Operand.tmp 9), type := 29, pos := "law.go:145", after := #[{ on := 10, ground := Ground.guard }], guard := some (10, false) } : Oper)) (v := ?_) rfl (by kernel_rfl) (by kernel_rfl) (by kernel_rfl) (fun _ _ _ h => h) (Or.inl ⟨by rfl, ?_⟩) (by assumption) ?_
        rotate_left
        · (intro wz hSw; (try dsimp only at hSw); go_simp; try with_reducible rfl)
        simp only [Act.put, List.setIfInBounds_toArray, List.set_cons_zero, List.set_cons_succ]
        refine wpAnyH_take (i := 14) (oi := ({ dst := some 37, op := Op.load 29 (Operand.tmp 7), type := 29, pos := "law.go:145", after := #[{ on := 10, ground := Ground.guard }], guard := some (10, false) } : Oper)) (v := ?_) rfl (by kernel_rfl) (by kernel_rfl) (by kernel_rfl) (fun _ _ _ h => h) (Or.inl ⟨by rfl, ?_⟩) (by assumption) ?_
        rotate_left
        · (intro wz hSw; (try dsimp only at hSw); go_simp; try with_reducible rfl)
        simp only [Act.put, List.setIfInBounds_toArray, List.set_cons_zero, List.set_cons_succ]
        refine wpAnyH_take (i := 15) (oi := ({ dst := some 38, op := Op.load 29 (Operand.tmp 8), type := 29, pos := "law.go:145", after := #[{ on := 10, ground := Ground.guard }], guard := some (10, false) } : Oper)) (v := ?_) rfl (by kernel_rfl) (by kernel_rfl) (by kernel_rfl) (fun _ _ _ h => h) (Or.inl ⟨by rfl, ?_⟩) (by assumption) ?_
        rotate_left
        · (intro wz hSw; (try dsimp only at hSw); go_simp; try with_reducible rfl)
        simp only [Act.put, List.setIfInBounds_toArray, List.set_cons_zero, List.set_cons_succ]
        refine wpAnyH_take (i := 16) (oi := ({ dst := some 39, op := Op.load 29 (Operand.tmp 9), type := 29, pos := "law.go:145", after := #[{ on := 10, ground := Ground.guard }], guard := some (10, false) } : Oper)) (v := ?_) rfl (by kernel_rfl) (by kernel_rfl) (by kernel_rfl) (fun _ _ _ h => h) (Or.inl ⟨by rfl, ?_⟩) (by assumption) ?_
        rotate_left
        · (intro wz hSw; (try dsimp only at hSw); go_simp; try with_reducible rfl)
        simp only [Act.put, List.setIfInBounds_toArray, List.set_cons_zero, List.set_cons_succ]
        refine wpAnyH_ready (rs := [13]) (by kernel_rfl) (by simp) ?_
        refine AllReadyH.cons (o := ({ dst := some 36, op := Op.call { callee := Callee.value (Operand.func 14), args := #[Operand.tmp 34, Operand.tmp 35], argTypes := #[29, 29] }, type := 29, pos := "law.go:145", after := #[{ on := 11, ground := Ground.data }, { on := 12, ground := Ground.data }, { on := 10, ground := Ground.chain }, { on := 10, ground := Ground.guard }], guard := some (10, false) } : Oper)) rfl (fun K hK => ?_) AllReadyH.nil
        · go_simp
          go_at_call 14
          refine (joinJ (HA.out.keep b3.out).rj (HA.out.keep b3.out).rz O4.out HO.out.2.2 (by omega) (by omega)).mono ?_
          rintro e w4 ⟨vRb, rfl, hb4, hR4⟩
          have Rb_4 := hide hR4
          clear hR4
          have b4 := hide (b3.out.trans (hb4.mono b3.out.size))
          refine hK.out _ _ (HS.out _ b4.out) (fun hH4 => ?_)
          clear hK K hb4
          refine wpAnyH_ready (rs := [17]) (by kernel_rfl) (by simp) ?_
          refine AllReadyH.cons (o := ({ dst := some 40, op := Op.call { callee := Callee.value (Operand.func 14), args := #[Operand.tmp 38, Operand.tmp 39], argTypes := #[29, 29] }, type := 29, pos := "law.go:145", after := #[{ on := 15, ground := Ground.data }, { on := 16, ground := Ground.data }, { on := 13, ground := Ground.chain }, { on := 10, ground := Ground.guard }], guard := some (10, false) } : Oper)) rfl (fun K hK => ?_) AllReadyH.nil
          · go_simp
            go_at_call 14
            refine (joinJ (HA.out.keep b4.out).ry (HA.out.keep b4.out).rz HO.out.2.1 HO.out.2.2 (by omega) (by omega)).mono ?_
            rintro e w5 ⟨vRc, rfl, hb5, hR5⟩
            have Rb_5 := hide (Rb_4.out.keep hb5)
            have Rc_5 := hide hR5
            clear hR5
            have b5 := hide (b4.out.trans (hb5.mono b4.out.size))
            refine hK.out _ _ (HS.out _ b5.out) (fun hH5 => ?_)
            clear hK K hb5
            refine wpAnyH_ready (rs := [18]) (by kernel_rfl) (by simp) ?_
            refine AllReadyH.cons (o := ({ dst := some 41, op := Op.call { callee := Callee.value (Operand.func 14), args := #[Operand.tmp 37, Operand.tmp 40], argTypes := #[29, 29] }, type := 29, pos := "law.go:145", after := #[{ on := 14, ground := Ground.data }, { on := 17, ground := Ground.data }, { on := 17, ground := Ground.chain }, { on := 10, ground := Ground.guard }], guard := some (10, false) } : Oper)) rfl (fun K hK => ?_) AllReadyH.nil
            · go_simp
              go_at_call 14
              refine (joinJ (HA.out.keep b5.out).rx Rc_5.out HO.out.1 O6.out (by omega) (by omega)).mono ?_
              rintro e w6 ⟨vRd, rfl, hb6, hR6⟩
              have Rb_6 := hide (Rb_5.out.keep hb6)
              have Rd_6 := hide hR6
              clear hR6
              have b6 := hide (b5.out.trans (hb6.mono b5.out.size))
              refine hK.out _ _ (HS.out _ b6.out) (fun hH6 => ?_)
              clear hK K hb6
              refine wpAnyH_ready (rs := [19]) (by kernel_rfl) (by simp) ?_
              refine AllReadyH.cons (o := ({ dst := some 42, op := Op.call { callee := Callee.value (Operand.func 20), args := #[Operand.tmp 36, Operand.tmp 41], argTypes := #[29, 29] }, type := 4, pos := "law.go:145", after := #[{ on := 13, ground := Ground.data }, { on := 18, ground := Ground.data }, { on := 18, ground := Ground.chain }, { on := 10, ground := Ground.guard }], guard := some (10, false) } : Oper)) rfl (fun K hK => ?_) AllReadyH.nil
              · go_simp
                go_at_call 20
                refine (equalT Rb_6.out Rd_6.out O7.out O8.out (by omega) (by omega) E2.out).mono ?_
                rintro e w7 ⟨rfl, hb7⟩
                have b7 := hide (b6.out.trans (hb7.mono b6.out.size))
                refine hK.out _ _ (HS.out _ b7.out) (fun hH7 => ?_)
                clear hK K hb7
                refine wpAnyH_take (i := 20) (oi := ({ dst := some 43, op := Op.unOp UnOp.not 4 (Operand.tmp 42), type := 4, pos := "law.go:145", after := #[{ on := 19, ground := Ground.data }, { on := 10, ground := Ground.guard }], guard := some (10, false) } : Oper)) (v := ?_) rfl (by kernel_rfl) (by kernel_rfl) (by kernel_rfl) (fun _ _ _ h => h) (Or.inl ⟨by rfl, ?_⟩) (by assumption) ?_
                rotate_left
                · (intro wz hSw; (try dsimp only at hSw); go_simp; try with_reducible rfl)
                simp only [Act.put, List.setIfInBounds_toArray, List.set_cons_zero, List.set_cons_succ]
                refine wpAnyH_take (i := 21) (oi := ({ dst := some 44, op := Op.pick (Operand.tmp 33) (Operand.const (Value.bool true)) (Operand.tmp 43), type := 4, pos := "law.go:145", after := #[{ on := 10, ground := Ground.data }, { on := 20, ground := Ground.data }], guard := none } : Oper)) (v := ?_) rfl (by kernel_rfl) (by kernel_rfl) (by kernel_rfl) (fun _ _ _ h => h) (Or.inl ⟨by rfl, ?_⟩) (by assumption) ?_
                rotate_left
                · (intro wz hSw; (try dsimp only at hSw); go_simp; try with_reducible rfl)
                simp only [Act.put, List.setIfInBounds_toArray, List.set_cons_zero, List.set_cons_succ]
                refine wpAnyH_take (i := 22) (oi := ({ dst := some 45, op := Op.move (Operand.tmp 44), type := 4, pos := "law.go:145", after := #[{ on := 21, ground := Ground.data }, { on := 19, ground := Ground.chain }], guard := none } : Oper)) (v := ?_) rfl (by kernel_rfl) (by kernel_rfl) (by kernel_rfl) (fun _ _ _ h => h) (Or.inl ⟨by rfl, ?_⟩) (by assumption) ?_
                rotate_left
                · (intro wz hSw; (try dsimp only at hSw); go_simp; try with_reducible rfl)
                simp only [Act.put, List.setIfInBounds_toArray, List.set_cons_zero, List.set_cons_succ]
                refine wpAnyH_take (i := 23) (oi := ({ dst := some 46, op := Op.load 29 (Operand.tmp 7), type := 29, pos := "law.go:145", after := #[{ on := 22, ground := Ground.guard }], guard := some (22, false) } : Oper)) (v := ?_) rfl (by kernel_rfl) (by kernel_rfl) (by kernel_rfl) (fun _ _ _ h => h) (Or.inl ⟨by rfl, ?_⟩) (by assumption) ?_
                rotate_left
                · (intro wz hSw; (try dsimp only at hSw); go_simp; try with_reducible rfl)
                simp only [Act.put, List.setIfInBounds_toArray, List.set_cons_zero, List.set_cons_succ]
                refine wpAnyH_take (i := 24) (oi := ({ dst := some 47, op := Op.load 29 (Operand.tmp 7), type := 29, pos := "law.go:145", after := #[{ on := 22, ground := Ground.guard }], guard := some (22, false) } : Oper)) (v := ?_) rfl (by kernel_rfl) (by kernel_rfl) (by kernel_rfl) (fun _ _ _ h => h) (Or.inl ⟨by rfl, ?_⟩) (by assumption) ?_
                rotate_left
                · (intro wz hSw; (try dsimp only at hSw); go_simp; try with_reducible rfl)
                simp only [Act.put, List.setIfInBounds_toArray, List.set_cons_zero, List.set_cons_succ]
                refine wpAnyH_take (i := 26) (oi := ({ dst := some 49, op := Op.load 29 (Operand.tmp 7), type := 29, pos := "law.go:145", after := #[{ on := 22, ground := Ground.guard }], guard := some (22, false) } : Oper)) (v := ?_) rfl (by kernel_rfl) (by kernel_rfl) (by kernel_rfl) (fun _ _ _ h => h) (Or.inl ⟨by rfl, ?_⟩) (by assumption) ?_
                rotate_left
                · (intro wz hSw; (try dsimp only at hSw); go_simp; try with_reducible rfl)
                simp only [Act.put, List.setIfInBounds_toArray, List.set_cons_zero, List.set_cons_succ]
                refine wpAnyH_ready (rs := [25]) (by kernel_rfl) (by simp) ?_
                refine AllReadyH.cons (o := ({ dst := some 48, op := Op.call { callee := Callee.value (Operand.func 14), args := #[Operand.tmp 46, Operand.tmp 47], argTypes := #[29, 29] }, type := 29, pos := "law.go:145", after := #[{ on := 23, ground := Ground.data }, { on := 24, ground := Ground.data }, { on := 22, ground := Ground.chain }, { on := 22, ground := Ground.guard }], guard := some (22, false) } : Oper)) rfl (fun K hK => ?_) AllReadyH.nil
                · go_simp
                  go_at_call 14
                  refine (joinJ (HA.out.keep b7.out).rx (HA.out.keep b7.out).rx HO.out.1 HO.out.1 (by omega) (by omega)).mono ?_
                  rintro e w8 ⟨vRe, rfl, hb8, hR8⟩
                  have Re_8 := hide hR8
                  clear hR8
                  have b8 := hide (b7.out.trans (hb8.mono b7.out.size))
                  refine hK.out _ _ (HS.out _ b8.out) (fun hH8 => ?_)
                  clear hK K hb8
                  refine wpAnyH_ready (rs := [27]) (by kernel_rfl) (by simp) ?_
                  refine AllReadyH.cons (o := ({ dst := some 50, op := Op.call { callee := Callee.value (Operand.func 20), args := #[Operand.tmp 48, Operand.tmp 49], argTypes := #[29, 29] }, type := 4, pos := "law.go:145", after := #[{ on := 25, ground := Ground.data }, { on := 26, ground := Ground.data }, { on := 25, ground := Ground.chain }, { on := 22, ground := Ground.guard }], guard := some (22, false) } : Oper)) rfl (fun K hK => ?_) AllReadyH.nil
                  · go_simp
                    go_at_call 20
                    refine (equalT Re_8.out (HA.out.keep b8.out).rx O9.out HO.out.1 (by omega) (by omega) E3.out).mono ?_
                    rintro e w9 ⟨rfl, hb9⟩
                    have b9 := hide (b8.out.trans (hb9.mono b8.out.size))
                    refine hK.out _ _ (HS.out _ b9.out) (fun hH9 => ?_)
                    clear hK K hb9
                    refine wpAnyH_take (i := 28) (oi := ({ dst := some 51, op := Op.unOp UnOp.not 4 (Operand.tmp 50), type := 4, pos := "law.go:145", after := #[{ on := 27, ground := Ground.data }, { on := 22, ground := Ground.guard }], guard := some (22, false) } : Oper)) (v := ?_) rfl (by kernel_rfl) (by kernel_rfl) (by kernel_rfl) (fun _ _ _ h => h) (Or.inl ⟨by rfl, ?_⟩) (by assumption) ?_
                    rotate_left
                    · (intro wz hSw; (try dsimp only at hSw); go_simp; try with_reducible rfl)
                    simp only [Act.put, List.setIfInBounds_toArray, List.set_cons_zero, List.set_cons_succ]
                    refine wpAnyH_take (i := 29) (oi := ({ dst := some 52, op := Op.pick (Operand.tmp 45) (Operand.const (Value.bool true)) (Operand.tmp 51), type := 4, pos := "law.go:145", after := #[{ on := 22, ground := Ground.data }, { on := 28, ground := Ground.data }], guard := none } : Oper)) (v := ?_) rfl (by kernel_rfl) (by kernel_rfl) (by kernel_rfl) (fun _ _ _ h => h) (Or.inl ⟨by rfl, ?_⟩) (by assumption) ?_
                    rotate_left
                    · (intro wz hSw; (try dsimp only at hSw); go_simp; try with_reducible rfl)
                    simp only [Act.put, List.setIfInBounds_toArray, List.set_cons_zero, List.set_cons_succ]
                    refine wpAnyH_done (by kernel_rfl) ?_ _
                    have HB := hide (HA.out.keep b9.out)
                    clear HS b9 hH9 HA E1 E2 E3 O5 O6 O7 O8 O9
                    obtain ⟨ax, cx, bx, dx, hx, -⟩ := HB.out.rx
                    simp at hx
                    obtain ⟨rfl, rfl, rfl⟩ := hx
                    obtain ⟨ay, cy, by9, dy, hy, -⟩ := HB.out.ry
                    simp at hy
                    obtain ⟨rfl, rfl, rfl⟩ := hy
                    obtain ⟨nx, hnx⟩ : ∃ z9, z9 = x.raw.vs.length := ⟨_, rfl⟩
                    obtain ⟨ny, hny⟩ : ∃ z9, z9 = y.raw.vs.length := ⟨_, rfl⟩
                    have HL : Hid (nx = x.us.length ∧ ny = y.us.length) := ⟨by rw [hnx]; unfold VS.raw; dsimp only; rw [List.length_map], by rw [hny]; unfold VS.raw; dsimp only; rw [List.length_map]⟩
                    rw [← hnx, ← hny] at HB
                    clear hnx hny
                    generalize x.raw.r = q0 at HB
                    generalize y.raw.r = q1 at HB
                    have z7_0 := HB.out.b7.c0
                    have z7_1 := HB.out.b7.c1
                    have z7_2 := HB.out.b7.c2
                    have z8_0 := HB.out.b8.c0
                    have z8_1 := HB.out.b8.c1
                    have z8_2 := HB.out.b8.c2
                    have z10_0 := HB.out.b10.c0
                    have z10_1 := HB.out.b10.c1
                    have z10_2 := HB.out.b10.c2
                    by_cases hle : (nx : Int) = ny
                    · have HE : Hid (x.us.length = y.us.length) := by unfold Hid; have := HL.out; omega
                      have cV1 := within_S HB.out.rx HB.out.rj HO.out.1 O4.out (by omega)
                      rw [(within_join HO.out.1 HO.out.2.1 HE.out).1] at cV1
                      go_upto_region 7 with (first | (go_at_call 18; refine cV1.mono ?_; rintro e wC ⟨rfl, hC⟩; have HC := hide (HB.out.keep hC); clear cV1 hC z7_0 z7_1 z7_2 z8_0 z8_1 z8_2 z10_0 z10_1 z10_2; have z8_0 := HC.out.b8.c0; have z8_1 := HC.out.b8.c1; have z8_2 := HC.out.b8.c2; have z10_0 := HC.out.b10.c0; have z10_1 := HC.out.b10.c1; have z10_2 := HC.out.b10.c2; have cV2 := within_S HC.out.ry HC.out.rj HO.out.2.1 O4.out (by omega); rw [(within_join HO.out.1 HO.out.2.1 HE.out).2] at cV2) | (go_at_call 18; refine cV2.mono ?_; rintro e wD ⟨rfl, hD⟩; have HD := hide (HC.out.keep hD); clear cV2 hD z8_0 z8_1 z8_2 z10_0 z10_1 z10_2))
                      have cW1 := within_S HD.out.rx HD.out.rz HO.out.1 HO.out.2.2 (by omega)
                      have z7_0 := HD.out.b7.c0
                      have z7_1 := HD.out.b7.c1
                      have z7_2 := HD.out.b7.c2
                      have z9_0 := HD.out.b9.c0
                      have z9_1 := HD.out.b9.c1
                      have z9_2 := HD.out.b9.c2
                      by_cases hxz : withinVS x z = true
                      · rw [hxz] at cW1
                        by_cases hyz : withinVS y z = true
                        · go_wp2_with (first | (go_at_call 18; refine cW1.mono ?_; rintro e wE ⟨rfl, hE⟩; have HE := hide (HD.out.keep hE); clear cW1 hE z7_0 z7_1 z7_2 z9_0 z9_1 z9_2; have z8_0 := HE.out.b8.c0; have z8_1 := HE.out.b8.c1; have z8_2 := HE.out.b8.c2; have z9_0 := HE.out.b9.c0; have z9_1 := HE.out.b9.c1; have z9_2 := HE.out.b9.c2; have cW2 := within_S HE.out.ry HE.out.rz HO.out.2.1 HO.out.2.2 (by omega); rw [hyz] at cW2) | (go_at_call 18; refine cW2.mono ?_; rintro e wF ⟨rfl, hF⟩; have HF := hide (HE.out.keep hF); clear cW2 hF z8_0 z8_1 z8_2 z9_0 z9_1 z9_2; have z10_0 := HF.out.b10.c0; have z10_1 := HF.out.b10.c1; have z10_2 := HF.out.b10.c2; have z9_0 := HF.out.b9.c0; have z9_1 := HF.out.b9.c1; have z9_2 := HF.out.b9.c2; have cW3 := within_S HF.out.rj HF.out.rz O4.out HO.out.2.2 (by omega); rw [within_lub HO.out.1 HO.out.2.1 HO.out.2.2 hxz hyz] at cW3) | (go_at_call 18; refine cW3.mono ?_; rintro e wG ⟨rfl, hG⟩; have HG := hide (HF.out.keep hG); clear cW3 hG z10_0 z10_1 z10_2 z9_0 z9_1 z9_2))
                          go_ret
                          exact ⟨by simp, HN.out ▸ HG.out.bel⟩
                        · rw [Bool.not_eq_true] at hyz
                          go_wp2_with (first | (go_at_call 18; refine cW1.mono ?_; rintro e wE ⟨rfl, hE⟩; have HE := hide (HD.out.keep hE); clear cW1 hE z7_0 z7_1 z7_2 z9_0 z9_1 z9_2; have z8_0 := HE.out.b8.c0; have z8_1 := HE.out.b8.c1; have z8_2 := HE.out.b8.c2; have z9_0 := HE.out.b9.c0; have z9_1 := HE.out.b9.c1; have z9_2 := HE.out.b9.c2; have cW2 := within_S HE.out.ry HE.out.rz HO.out.2.1 HO.out.2.2 (by omega); rw [hyz] at cW2) | (go_at_call 18; refine cW2.mono ?_; rintro e wF ⟨rfl, hF⟩; have HF := hide (HE.out.keep hF); clear cW2 hF z8_0 z8_1 z8_2 z9_0 z9_1 z9_2))
                          go_ret
                          exact ⟨by simp, HN.out ▸ HF.out.bel⟩
                      · rw [Bool.not_eq_true] at hxz
                        rw [hxz] at cW1
                        go_wp2_with (go_at_call 18; refine cW1.mono ?_; rintro e wE ⟨rfl, hE⟩; have HE := hide (HD.out.keep hE); clear cW1 hE z7_0 z7_1 z7_2 z9_0 z9_1 z9_2)
                        go_ret
                        exact ⟨by simp, HN.out ▸ HE.out.bel⟩
                    · go_upto_region 7 with fail
                      clear z7_0 z7_1 z7_2 z8_0 z8_1 z8_2 z10_0 z10_1 z10_2
                      have cW1 := within_S HB.out.rx HB.out.rz HO.out.1 HO.out.2.2 (by omega)
                      have z7_0 := HB.out.b7.c0
                      have z7_1 := HB.out.b7.c1
                      have z7_2 := HB.out.b7.c2
                      have z9_0 := HB.out.b9.c0
                      have z9_1 := HB.out.b9.c1
                      have z9_2 := HB.out.b9.c2
                      by_cases hxz : withinVS x z = true
                      · rw [hxz] at cW1
                        by_cases hyz : withinVS y z = true
                        · go_wp2_with (first | (go_at_call 18; refine cW1.mono ?_; rintro e wE ⟨rfl, hE⟩; have HE := hide (HB.out.keep hE); clear cW1 hE z7_0 z7_1 z7_2 z9_0 z9_1 z9_2; have z8_0 := HE.out.b8.c0; have z8_1 := HE.out.b8.c1; have z8_2 := HE.out.b8.c2; have z9_0 := HE.out.b9.c0; have z9_1 := HE.out.b9.c1; have z9_2 := HE.out.b9.c2; have cW2 := within_S HE.out.ry HE.out.rz HO.out.2.1 HO.out.2.2 (by omega); rw [hyz] at cW2) | (go_at_call 18; refine cW2.mono ?_; rintro e wF ⟨rfl, hF⟩; have HF := hide (HE.out.keep hF); clear cW2 hF z8_0 z8_1 z8_2 z9_0 z9_1 z9_2; have z10_0 := HF.out.b10.c0; have z10_1 := HF.out.b10.c1; have z10_2 := HF.out.b10.c2; have z9_0 := HF.out.b9.c0; have z9_1 := HF.out.b9.c1; have z9_2 := HF.out.b9.c2; have cW3 := within_S HF.out.rj HF.out.rz O4.out HO.out.2.2 (by omega); rw [within_lub HO.out.1 HO.out.2.1 HO.out.2.2 hxz hyz] at cW3) | (go_at_call 18; refine cW3.mono ?_; rintro e wG ⟨rfl, hG⟩; have HG := hide (HF.out.keep hG); clear cW3 hG z10_0 z10_1 z10_2 z9_0 z9_1 z9_2))
                          go_ret
                          exact ⟨by simp, HN.out ▸ HG.out.bel⟩
                        · rw [Bool.not_eq_true] at hyz
                          go_wp2_with (first | (go_at_call 18; refine cW1.mono ?_; rintro e wE ⟨rfl, hE⟩; have HE := hide (HB.out.keep hE); clear cW1 hE z7_0 z7_1 z7_2 z9_0 z9_1 z9_2; have z8_0 := HE.out.b8.c0; have z8_1 := HE.out.b8.c1; have z8_2 := HE.out.b8.c2; have z9_0 := HE.out.b9.c0; have z9_1 := HE.out.b9.c1; have z9_2 := HE.out.b9.c2; have cW2 := within_S HE.out.ry HE.out.rz HO.out.2.1 HO.out.2.2 (by omega); rw [hyz] at cW2) | (go_at_call 18; refine cW2.mono ?_; rintro e wF ⟨rfl, hF⟩; have HF := hide (HE.out.keep hF); clear cW2 hF z8_0 z8_1 z8_2 z9_0 z9_1 z9_2))
                          go_ret
                          exact ⟨by simp, HN.out ▸ HF.out.bel⟩
                      · rw [Bool.not_eq_true] at hxz
                        rw [hxz] at cW1
                        go_wp2_with (go_at_call 18; refine cW1.mono ?_; rintro e wE ⟨rfl, hE⟩; have HE := hide (HB.out.keep hE); clear cW1 hE z7_0 z7_1 z7_2 z9_0 z9_1 z9_2)
                        go_ret
                        exact ⟨by simp, HN.out ▸ HE.out.bel⟩
end Go.Proofs.Ytmhicllhjiglkaa
