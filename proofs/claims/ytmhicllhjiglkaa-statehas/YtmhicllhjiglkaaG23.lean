import Derived.Test.YtmhicllhjiglkaaG22
namespace Go.Proofs.Ytmhicllhjiglkaa
open Go.RowKit
theorem boxes2x (w : World) (r : Bool) (va sa : Value) (r1 : Bool) (va1 sa1 : Value) (t0 t1 t2 : TypeId) (vs : Array Value) :
    ∀ W, ((w.alloc (.cells #[.bool r, va, sa] t0)).alloc (.cells #[.bool r1, va1, sa1] t1)).alloc (.cells vs t2) = W →
    Tw w.heap.size (w.heap.size + 1 + 1 + 1) w W W w.heap.size (w.heap.size + 1) r va sa r1 va1 sa1 ∧ W.heap[w.heap.size + 1 + 1]? = some (.cells vs t2) := by
  rintro W rfl
  have sz : ∀ (u : World) (o : Obj), (u.alloc o).heap.size = u.heap.size + 1 := fun u o => by simp
  obtain ⟨A, hA⟩ : ∃ A, A = (w.alloc (.cells #[.bool r, va, sa] t0)).alloc (.cells #[.bool r1, va1, sa1] t1) := ⟨_, rfl⟩
  have hs : A.heap.size = w.heap.size + 1 + 1 := by rw [hA, sz, sz]
  obtain ⟨B0, F0, B1, F1, u⟩ := boxes2 w r va sa r1 va1 sa1 t0 t1 A hA.symm
  rw [← hA]
  have g : Below A.heap.size A (A.alloc (.cells vs t2)) := (Below.refl _ _).alloc (Nat.le_refl _) _
  refine ⟨⟨B0.keep g, F0.of (g.block _ B0.lt), B1.keep g, F1.of (g.block _ B1.lt), u.trans (g.mono (by omega)), Nat.le_refl _, Nat.le_succ _, by omega, by omega, by omega, ?_, fun _ _ _ _ => rfl⟩, ?_⟩
  · rw [sz, hs]; exact Nat.le_refl _
  · rw [← hs]; exact heap_alloc_new A _
theorem hasr_S {v1 : Value} {x : VS} {n : Nat} {w : World} (h1 : Rs w v1 x.raw) (k1 : VOk n x) (hn : n ≤ 5000) (a2 b2 : Option Addr) (c2 d2 : Nat) (regs last : List Int) (f1 : Ri w a2 regs) (f2 : Ri w b2 last) (hri : ∀ n ∈ regs, i64 n) (hl1 : regs.length ≤ 100000) (hl2 : last.length ≤ 100000) :
    Calls Try.prog 36 #[v1, .slice a2 regs.length c2, .slice b2 last.length d2] w fun e w' => e = .returned (.bool (hasVS x regs last)) ∧ Below w.heap.size w w' := by
  obtain ⟨a, c, b, d, rfl, e1, e2, -⟩ := h1
  obtain ⟨r, us, ss⟩ := x
  dsimp only [VS.raw] at *
  have t := hasr_S0 a b a2 b2 c d c2 d2 r us ss regs last w e1 e2 f1 f2 (fun l hl => by have := (k1.up l hl).2; omega) hri hl1 hl2
  rw [List.length_map]
  exact t
/-- all that stands behind 'j := ..' -/
structure Ha (N : Nat) (w0 w : World) (p q k9 : Nat) (q0 : Bool) (v0 s0 : Value) (q1 : Bool) (v1 s1 : Value) (qj : Bool) (vj sj : Value) (x y z : VS) (a2 b2 : Option Addr) (regs last : List Int) : Prop where
  b3 : Bs w p q0 v0 s0
  b4 : Bs w q q1 v1 s1
  b9 : Bs w k9 qj vj sj
  rx : Rs w (.agg #[.bool q0, v0, s0]) x.raw
  ry : Rs w (.agg #[.bool q1, v1, s1]) y.raw
  rj : Rs w (.agg #[.bool qj, vj, sj]) z.raw
  r1 : Ri w a2 regs
  r2 : Ri w b2 last
  bel : Below N w0 w
  le : N ≤ w.heap.size
theorem Ha.keep {N : Nat} {w0 w w' : World} {p q k9 : Nat} {q0 : Bool} {v0 s0 : Value} {q1 : Bool} {v1 s1 : Value} {qj : Bool} {vj sj : Value} {x y z : VS} {a2 b2 : Option Addr} {regs last : List Int} (h : Ha N w0 w p q k9 q0 v0 s0 q1 v1 s1 qj vj sj x y z a2 b2 regs last) (hb : Below w.heap.size w w') : Ha N w0 w' p q k9 q0 v0 s0 q1 v1 s1 qj vj sj x y z a2 b2 regs last :=
  ⟨h.b3.keep hb, h.b4.keep hb, h.b9.keep hb, h.rx.keep hb, h.ry.keep hb, h.rj.keep hb, h.r1.keep' hb, h.r2.keep' hb, h.bel.trans (hb.mono h.le), Nat.le_trans h.le hb.size⟩
theorem ri_take {w : World} {a : Option Addr} {l : List Int} (h : Ri w a l) (k : Nat) : Ri w a (l.take k) := fun i y hy => h i y (by rw [List.getElem?_take] at hy; split at hy <;> simp_all)
set_option maxRecDepth 100000 in
set_option maxHeartbeats 8000000 in
theorem stateHas_walk (a0 g0 a1 g1 a2 g2 : Option Addr) (c0 d0 c1 d1 c2 d2 : Nat) (r0 r1 : Bool) (vs0 vs1 : List R) (ss0 ss1 : List (List Int)) (rs ls : List Int) (w : World)
    (hv0 : RV w a0 vs0) (hs0 : RR w g0 ss0) (hi0 : ∀ (m : Nat) (x : R), vs0[m]? = some x → i64 x.n ∧ i64 x.lo ∧ i64 x.hi)
    (hv1 : RV w a1 vs1) (hs1 : RR w g1 ss1) (hi1 : ∀ (m : Nat) (x : R), vs1[m]? = some x → i64 x.n ∧ i64 x.lo ∧ i64 x.hi)
    (hr : Ri w a2 rs) (hl : Ri w g2 ls) (hri : ∀ n ∈ rs, i64 n) (hrc : rs.length ≤ c2) (hlc : ls.length ≤ d2) :
    Calls Try.prog 7 #[.agg #[.bool r0, .slice a0 vs0.length c0, .slice g0 ss0.length d0], .agg #[.bool r1, .slice a1 vs1.length c1, .slice g1 ss1.length d1], .agg #[.slice a2 rs.length c2, .slice g2 ls.length d2]] w fun e w' => e = .returned (.bool true) ∧ Below w.heap.size w w' := by
  have cA := fix_pre9 (c := c0) (d := d0) (r := r0) hv0 hs0 hi0
  have cB := fix_pre9 (c := c1) (d := d1) (r := r1) hv1 hs1 hi1
  have HR := hide hr
  have HL := hide hl
  have HRI := hide hri
  have HRC := hide (And.intro hrc hlc)
  clear hv0 hs0 hi0 hv1 hs1 hi1 hr hl hri hrc hlc
  go_enter Try.func7, Try.ntmps7
  go_upto_region 1 with fail
  go_name_world W hW
  obtain ⟨T0, k5⟩ := boxes2x w _ _ _ _ _ _ _ _ _ _ W hW
  clear hW
  obtain ⟨N, hN⟩ : ∃ z9, z9 = w.heap.size := ⟨_, rfl⟩
  rw [← hN] at T0 k5 cA cB ⊢
  have HN : Hid (N = w.heap.size) := hN
  clear hN
  refine fx7 _ _ _ _ N _ w W N (N + 1) r0 _ _ r1 _ _ (cA _) (cB _) ?_ W T0
  clear cA cB T0
  intro v q0 v0 s0 q1 v1 s1 x y T R0 R1 O0 O1
  dsimp only [fxAct7]
  have k5v := (T.fr (N + 1 + 1) (by omega) (by omega) (by omega)).trans k5
  have x0 : v.cell? ⟨N + 1 + 1, 0, none⟩ = some (.slice a2 rs.length c2) := by simp [World.cell?, k5v]
  have x1 : v.cell? ⟨N + 1 + 1, 1, none⟩ = some (.slice g2 ls.length d2) := by simp [World.cell?, k5v]
  go_upto_region 2 with fail
  refine sl7 (fun _ _ d _ _ h => by cases d <;> exact h) _ _ _ _ _ _ _ _ _ (N + 1 + 1) a2 g2 c2 d2 rs ls HRC.out.1 HRC.out.2 v ?_ ⟨x0, x1⟩
  intro e14 e15 e16 e17 e18 e19 e20 e21 e22 e23 e24 e25 e26 e27
  dsimp only [slAct7]
  clear x0 x1 k5v k5
  have T2 := T.keep (Below.refl _ _).drew
  have ox : VOk 60 x := (O0.vok (by omega)).2
  have oy : VOk 60 y := (O1.vok (by omega)).2
  have rx := (R0.keep (Below.refl _ _).drew).rs
  have ry := (R1.keep (Below.refl _ _).drew).rs
  clear T R0 R1 O0 O1
  generalize v.drew = v2 at *
  obtain ⟨regs, hregs⟩ : ∃ z9, z9 = rs.take 8 := ⟨_, rfl⟩
  obtain ⟨last, hlast⟩ : ∃ z9, z9 = ls.take 8 := ⟨_, rfl⟩
  have lr : min rs.length 8 = regs.length := by rw [hregs, List.length_take, Nat.min_comm]
  have ll : min ls.length 8 = last.length := by rw [hlast, List.length_take, Nat.min_comm]
  rw [lr, ll]
  have l8 : regs.length ≤ 100000 := by omega
  have m8 : last.length ≤ 100000 := by omega
  have HRG := hide (hregs ▸ ri_take HR.out 8)
  have HLG := hide (hlast ▸ ri_take HL.out 8)
  have HRI2 : Hid (∀ n ∈ regs, i64 n) := hide (fun n hn => HRI.out n (by rw [hregs] at hn; exact List.mem_of_mem_take hn))
  clear lr ll hregs hlast HR HL HRI HRC
  go_upto_region 3 with fail
  refine jn7 (fun _ _ d _ _ h => by cases d <;> exact h) _ _ _ _ _ _ _ _ _ _ _ _ _ _ _ _ _ _ _ _ _ _ _ _ N (N + 1) q0 v0 s0 q1 v1 s1 x y v2 T2.b0 T2.b1 rx ry (VOk.mono ox (Nat.le_refl _)) (VOk.mono oy (Nat.le_refl _)) ?_
  intro wj k9 qj ja nj jc jb mj jd e29 e31 B9 RJ bj
  dsimp only [jnAct7]
  have HA : Hid (Ha N w wj N (N + 1) k9 q0 v0 s0 q1 v1 s1 qj (.slice ja nj jc) (.slice jb mj jd) x y (togV joinV x y) a2 g2 regs last) := hide ⟨T2.b0.keep bj, T2.b1.keep bj, B9, rx.keep bj, ry.keep bj, RJ, (HRG.out.keep' (HN.out ▸ T2.bel)).keep' bj, (HLG.out.keep' (HN.out ▸ T2.bel)).keep' bj, T2.bel.trans (bj.mono (Nat.le_trans (by omega) T2.le)), Nat.le_trans (Nat.le_trans (by omega) T2.le) bj.size⟩
  have HO := hide (And.intro ox oy)
  clear T2 rx ry ox oy B9 RJ bj HRG HLG
  obtain ⟨z, hz⟩ : ∃ z9, z9 = togV joinV x y := ⟨_, rfl⟩
  have HZ := hide (And.intro hz (hz ▸ tog_ok join_ok HO.out.1 HO.out.2))
  rw [← hz] at HA
  clear hz
  go_upto_region 4 with fail
  have HS : Hid (∀ w', Below wj.heap.size wj w' → (w'.cell? ⟨N, 0, none⟩ = some (.bool q0) ∧ w'.cell? ⟨N, 1, none⟩ = some (v0) ∧ w'.cell? ⟨N, 2, none⟩ = some (s0))) := hide (fun w' h => ⟨(HA.out.keep h).b3.c0, (HA.out.keep h).b3.c1, (HA.out.keep h).b3.c2⟩)
  refine wp_region_held_drew (S := fun w' => w'.cell? ⟨N, 0, none⟩ = some (.bool q0) ∧ w'.cell? ⟨N, 1, none⟩ = some (v0) ∧ w'.cell? ⟨N, 2, none⟩ = some (s0)) (by kernel_rfl) (HS.out _ (Below.refl _ _).drew) (fun hH0 => ?_)
  obtain ⟨w0, hw0⟩ : ∃ w0, w0 = wj.drew := ⟨_, rfl⟩
  (try rw [← hw0] at hH0)
  rw [← hw0]
  have b0 : Hid (Below wj.heap.size wj w0) := hw0 ▸ hide (Below.refl _ _).drew
  clear hw0
  refine wpAnyH_ready (rs := [0]) (by kernel_rfl) (by simp) ?_
  refine AllReadyH.cons (o := ({ dst := some 33, op := Op.call { callee := Callee.value (Operand.func 12), args := #[], argTypes := #[] }, type := 4, pos := "law.go:132", after := #[], guard := none } : Oper)) rfl (fun K hK => ?_) AllReadyH.nil
  · go_simp
    go_at_call 12
    refine (told_any _).mono ?_
    rintro e w1 ⟨rfl, hb1⟩
    have b1 := hide (b0.out.trans (hb1.mono b0.out.size))
    refine hK.out _ _ (HS.out _ b1.out) (fun hH1 => ?_)
    clear hK K hb1
    refine wpAnyH_take (i := 1) (oi := ({ dst := some 34, op := Op.unOp UnOp.not 4 (Operand.tmp 33), type := 4, pos := "law.go:132", after := #[{ on := 0, ground := Ground.data }], guard := none } : Oper)) (v := ?_) rfl (by kernel_rfl) (by kernel_rfl) (by kernel_rfl) (fun _ _ _ h => h) (Or.inl ⟨by rfl, ?_⟩) (by assumption) ?_
    rotate_left
    · (intro wz hSw; (try dsimp only at hSw); go_simp; try with_reducible rfl)
    simp only [Act.put, List.setIfInBounds_toArray, List.set_cons_zero, List.set_cons_succ]
    refine wpAnyH_take (i := 2) (oi := ({ dst := some 35, op := Op.move (Operand.tmp 34), type := 4, pos := "law.go:132", after := #[{ on := 1, ground := Ground.data }, { on := 0, ground := Ground.chain }], guard := none } : Oper)) (v := ?_) rfl (by kernel_rfl) (by kernel_rfl) (by kernel_rfl) (fun _ _ _ h => h) (Or.inl ⟨by rfl, ?_⟩) (by assumption) ?_
    rotate_left
    · (intro wz hSw; (try dsimp only at hSw); go_simp; try with_reducible rfl)
    simp only [Act.put, List.setIfInBounds_toArray, List.set_cons_zero, List.set_cons_succ]
    refine wpAnyH_take (i := 3) (oi := ({ dst := some 36, op := Op.load 25 (Operand.tmp 3), type := 25, pos := "law.go:132", after := #[{ on := 2, ground := Ground.guard }], guard := some (2, false) } : Oper)) (v := ?_) rfl (by kernel_rfl) (by kernel_rfl) (by kernel_rfl) (fun _ _ _ h => h) (Or.inl ⟨by rfl, ?_⟩) (by assumption) ?_
    rotate_left
    · (intro wz hSw; (try dsimp only at hSw); go_simp; try with_reducible rfl)
    simp only [Act.put, List.setIfInBounds_toArray, List.set_cons_zero, List.set_cons_succ]
    refine wpAnyH_take (i := 5) (oi := ({ dst := some 38, op := Op.move (Operand.tmp 7), type := 68, pos := "law.go:132", after := #[{ on := 2, ground := Ground.guard }], guard := some (2, false) } : Oper)) (v := ?_) rfl (by kernel_rfl) (by kernel_rfl) (by kernel_rfl) (fun _ _ _ h => h) (Or.inl ⟨by rfl, ?_⟩) (by assumption) ?_
    rotate_left
    · (intro wz hSw; (try dsimp only at hSw); go_simp; try with_reducible rfl)
    simp only [Act.put, List.setIfInBounds_toArray, List.set_cons_zero, List.set_cons_succ]
    refine wpAnyH_take (i := 6) (oi := ({ dst := some 39, op := Op.move (Operand.tmp 8), type := 38, pos := "law.go:132", after := #[{ on := 2, ground := Ground.guard }], guard := some (2, false) } : Oper)) (v := ?_) rfl (by kernel_rfl) (by kernel_rfl) (by kernel_rfl) (fun _ _ _ h => h) (Or.inl ⟨by rfl, ?_⟩) (by assumption) ?_
    rotate_left
    · (intro wz hSw; (try dsimp only at hSw); go_simp; try with_reducible rfl)
    simp only [Act.put, List.setIfInBounds_toArray, List.set_cons_zero, List.set_cons_succ]
    refine wpAnyH_take (i := 8) (oi := ({ dst := some 41, op := Op.load 25 (Operand.tmp 3), type := 25, pos := "law.go:132", after := #[{ on := 2, ground := Ground.guard }], guard := some (2, false) } : Oper)) (v := ?_) rfl (by kernel_rfl) (by kernel_rfl) (by kernel_rfl) (fun _ _ _ h => h) (Or.inl ⟨by rfl, ?_⟩) (by assumption) ?_
    rotate_left
    · (intro wz hSw; (try dsimp only at hSw); go_simp; try with_reducible rfl)
    simp only [Act.put, List.setIfInBounds_toArray, List.set_cons_zero, List.set_cons_succ]
    refine wpAnyH_take (i := 9) (oi := ({ dst := some 42, op := Op.move (Operand.tmp 7), type := 68, pos := "law.go:132", after := #[{ on := 2, ground := Ground.guard }], guard := some (2, false) } : Oper)) (v := ?_) rfl (by kernel_rfl) (by kernel_rfl) (by kernel_rfl) (fun _ _ _ h => h) (Or.inl ⟨by rfl, ?_⟩) (by assumption) ?_
    rotate_left
    · (intro wz hSw; (try dsimp only at hSw); go_simp; try with_reducible rfl)
    simp only [Act.put, List.setIfInBounds_toArray, List.set_cons_zero, List.set_cons_succ]
    refine wpAnyH_take (i := 10) (oi := ({ dst := some 43, op := Op.move (Operand.tmp 8), type := 38, pos := "law.go:132", after := #[{ on := 2, ground := Ground.guard }], guard := some (2, false) } : Oper)) (v := ?_) rfl (by kernel_rfl) (by kernel_rfl) (by kernel_rfl) (fun _ _ _ h => h) (Or.inl ⟨by rfl, ?_⟩) (by assumption) ?_
    rotate_left
    · (intro wz hSw; (try dsimp only at hSw); go_simp; try with_reducible rfl)
    simp only [Act.put, List.setIfInBounds_toArray, List.set_cons_zero, List.set_cons_succ]
    refine wpAnyH_ready (rs := [4]) (by kernel_rfl) (by simp) ?_
    refine AllReadyH.cons (o := ({ dst := some 37, op := Op.call { callee := Callee.value (Operand.func 11), args := #[Operand.tmp 36], argTypes := #[25] }, type := 29, pos := "law.go:132", after := #[{ on := 3, ground := Ground.data }, { on := 2, ground := Ground.chain }, { on := 2, ground := Ground.guard }], guard := some (2, false) } : Oper)) rfl (fun K hK => ?_) AllReadyH.nil
    · go_simp
      go_at_call 11
      refine (to_J (HA.out.keep b1.out).rx HO.out.1 (by omega)).mono ?_
      rintro e w2 ⟨yv, rfl, hb2, hY⟩
      have b2 := hide (b1.out.trans (hb2.mono b1.out.size))
      have Y_2 := hide hY
      clear hY
      refine hK.out _ _ (HS.out _ b2.out) (fun hH2 => ?_)
      clear hK K hb2
      refine wpAnyH_ready (rs := [7]) (by kernel_rfl) (by simp) ?_
      refine AllReadyH.cons (o := ({ dst := some 40, op := Op.call { callee := Callee.value (Operand.func 35), args := #[Operand.tmp 37, Operand.tmp 38, Operand.tmp 39], argTypes := #[29, 68, 38] }, type := 4, pos := "law.go:132", after := #[{ on := 4, ground := Ground.data }, { on := 5, ground := Ground.data }, { on := 6, ground := Ground.data }, { on := 4, ground := Ground.chain }, { on := 2, ground := Ground.guard }], guard := some (2, false) } : Oper)) rfl (fun K hK => ?_) AllReadyH.nil
      · go_simp
        go_at_call 35
        refine (has_S Y_2.out HO.out.1 (by omega) _ _ _ _ regs last (HA.out.keep b2.out).r1 (HA.out.keep b2.out).r2).mono ?_
        rintro e w3 ⟨rfl, hb3⟩
        have b3 := hide (b2.out.trans (hb3.mono b2.out.size))
        clear Y_2
        refine hK.out _ _ (HS.out _ b3.out) (fun hH3 => ?_)
        clear hK K hb3
        refine wpAnyH_ready (rs := [11]) (by kernel_rfl) (by simp) ?_
        refine AllReadyH.cons (o := ({ dst := some 44, op := Op.call { callee := Callee.value (Operand.func 36), args := #[Operand.tmp 41, Operand.tmp 42, Operand.tmp 43], argTypes := #[25, 68, 38] }, type := 4, pos := "law.go:132", after := #[{ on := 8, ground := Ground.data }, { on := 9, ground := Ground.data }, { on := 10, ground := Ground.data }, { on := 7, ground := Ground.chain }, { on := 2, ground := Ground.guard }], guard := some (2, false) } : Oper)) rfl (fun K hK => ?_) AllReadyH.nil
        · go_simp
          go_at_call 36
          refine (hasr_S (HA.out.keep b3.out).rx HO.out.1 (by omega) _ _ _ _ regs last (HA.out.keep b3.out).r1 (HA.out.keep b3.out).r2 HRI2.out l8 m8).mono ?_
          rintro e w4 ⟨rfl, hb4⟩
          have b4 := hide (b3.out.trans (hb4.mono b3.out.size))
          refine hK.out _ _ (HS.out _ b4.out) (fun hH4 => ?_)
          clear hK K hb4
          refine wpAnyH_take (i := 12) (oi := ({ dst := some 45, op := Op.binOp BinOp.neq 4 (Operand.tmp 40) (Operand.tmp 44) 4, type := 4, pos := "law.go:132", after := #[{ on := 7, ground := Ground.data }, { on := 11, ground := Ground.data }, { on := 2, ground := Ground.guard }], guard := some (2, false) } : Oper)) (v := ?_) rfl (by kernel_rfl) (by kernel_rfl) (by kernel_rfl) (fun _ _ _ h => h) (Or.inl ⟨by rfl, ?_⟩) (by assumption) ?_
          rotate_left
          · (intro wz hSw; (try dsimp only at hSw); go_simp; try with_reducible rfl)
          simp only [Act.put, List.setIfInBounds_toArray, List.set_cons_zero, List.set_cons_succ]
          refine wpAnyH_take (i := 13) (oi := ({ dst := some 46, op := Op.pick (Operand.tmp 35) (Operand.const (Value.bool true)) (Operand.tmp 45), type := 4, pos := "law.go:132", after := #[{ on := 2, ground := Ground.data }, { on := 12, ground := Ground.data }], guard := none } : Oper)) (v := ?_) rfl (by kernel_rfl) (by kernel_rfl) (by kernel_rfl) (fun _ _ _ h => h) (Or.inl ⟨by rfl, ?_⟩) (by assumption) ?_
          rotate_left
          · (intro wz hSw; (try dsimp only at hSw); go_simp; try with_reducible rfl)
          simp only [Act.put, List.setIfInBounds_toArray, List.set_cons_zero, List.set_cons_succ]
          refine wpAnyH_done (by kernel_rfl) ?_ _
          have HB := hide (HA.out.keep b4.out)
          clear HS b4 hH4 HA
          obtain ⟨wb, hwb⟩ : ∃ z9, z9 = w4 := ⟨_, rfl⟩
          rw [← hwb] at HB ⊢
          clear hwb
          obtain ⟨ax, cx, bx, dx, hx, -⟩ := HB.out.rx
          simp at hx
          obtain ⟨rfl, rfl, rfl⟩ := hx
          obtain ⟨ay, cy, by9, dy, hy, -⟩ := HB.out.ry
          simp at hy
          obtain ⟨rfl, rfl, rfl⟩ := hy
          obtain ⟨nx, hnx⟩ : ∃ z9, z9 = x.raw.vs.length := ⟨_, rfl⟩
          obtain ⟨ny, hny⟩ : ∃ z9, z9 = y.raw.vs.length := ⟨_, rfl⟩
          have HL : Hid (nx = x.us.length ∧ ny = y.us.length) := ⟨by rw [hnx]; unfold VS.raw; dsimp only; rw [List.length_map], by rw [hny]; unfold VS.raw; dsimp only; rw [List.length_map]⟩
          rw [← hnx, ← hny] at HB
          clear hnx hny
          obtain ⟨q0, hq0⟩ : ∃ z9, z9 = x.raw.r := ⟨_, rfl⟩
          obtain ⟨q1, hq1⟩ : ∃ z9, z9 = y.raw.r := ⟨_, rfl⟩
          rw [← hq0, ← hq1] at HB
          have HQ : Hid (q0 = x.r ∧ q1 = y.r) := ⟨hq0, hq1⟩
          clear hq0 hq1
          have z0 := HB.out.b3.c0
          have z1 := HB.out.b3.c1
          have y0 := HB.out.b4.c0
          have y1 := HB.out.b4.c1
          have way : (q0 = false) ∨ (q0 = true ∧ q1 = false) ∨ (q0 = true ∧ q1 = true ∧ (nx : Int) = ny) ∨ (q0 = true ∧ q1 = true ∧ ¬ (nx : Int) = ny) := by
            by_cases h : (nx : Int) = ny <;> cases q0 <;> cases q1 <;> simp_all
          rcases way with rfl | ⟨rfl, rfl⟩ | ⟨rfl, rfl, hle⟩ | ⟨rfl, rfl, hle⟩
          · have HC : Hid (x.r = true → y.r = true → x.us.length = y.us.length) := hide (fun h => by rw [← HQ.out.1] at h; cases h)
            go_upto_region 8 with fail
            clear z0 z1 y0 y1 HL HQ
            have hj := has_join HO.out.1 HO.out.2 regs last HC.out
            rw [← HZ.out.1] at hj
            cases hbx0 : hasVS x regs last <;> cases hby0 : hasVS y regs last
            · have hbx : Hid (hasVS x regs last = false) := hide hbx0
              have hby : Hid (hasVS y regs last = false) := hide hby0
              clear hbx0 hby0 hj
              have m0 := HB.out.b3.c0
              have m1 := HB.out.b3.c1
              have m2 := HB.out.b3.c2
              go_wp2_with (first | (go_at_call 36; have cc := hasr_S HB.out.rx HO.out.1 (by omega) a2 g2 c2 d2 regs last HB.out.r1 HB.out.r2 HRI2.out l8 m8; rw [hbx.out] at cc; refine cc.mono ?_; rintro e wx0 ⟨rfl, hA⟩; have HB1 := hide (HB.out.keep hA); clear hA cc m0 m1 m2 HB; have m0 := HB1.out.b4.c0; have m1 := HB1.out.b4.c1; have m2 := HB1.out.b4.c2) | (go_at_call 36; have cc := hasr_S HB1.out.ry HO.out.2 (by omega) a2 g2 c2 d2 regs last HB1.out.r1 HB1.out.r2 HRI2.out l8 m8; rw [hby.out] at cc; refine cc.mono ?_; rintro e wx1 ⟨rfl, hA⟩; have HB2 := hide (HB1.out.keep hA); clear hA cc m0 m1 m2 HB1))
              go_ret
              exact ⟨by simp, HN.out ▸ HB2.out.bel⟩
            · have hbx : Hid (hasVS x regs last = false) := hide hbx0
              have hby : Hid (hasVS y regs last = true) := hide hby0
              have hbj : Hid (hasVS z regs last = true) := hide (hj.2 hby0)
              clear hbx0 hby0 hj
              have m0 := HB.out.b3.c0
              have m1 := HB.out.b3.c1
              have m2 := HB.out.b3.c2
              go_wp2_with (first | (go_at_call 36; have cc := hasr_S HB.out.rx HO.out.1 (by omega) a2 g2 c2 d2 regs last HB.out.r1 HB.out.r2 HRI2.out l8 m8; rw [hbx.out] at cc; refine cc.mono ?_; rintro e wx0 ⟨rfl, hA⟩; have HB1 := hide (HB.out.keep hA); clear hA cc m0 m1 m2 HB; have m0 := HB1.out.b4.c0; have m1 := HB1.out.b4.c1; have m2 := HB1.out.b4.c2) | (go_at_call 36; have cc := hasr_S HB1.out.ry HO.out.2 (by omega) a2 g2 c2 d2 regs last HB1.out.r1 HB1.out.r2 HRI2.out l8 m8; rw [hby.out] at cc; refine cc.mono ?_; rintro e wx1 ⟨rfl, hA⟩; have HB2 := hide (HB1.out.keep hA); clear hA cc m0 m1 m2 HB1; have m0 := HB2.out.b9.c0; have m1 := HB2.out.b9.c1; have m2 := HB2.out.b9.c2) | (go_at_call 35; have cc := has_S HB2.out.rj HZ.out.2 (by omega) a2 g2 c2 d2 regs last HB2.out.r1 HB2.out.r2; rw [hbj.out] at cc; refine cc.mono ?_; rintro e wx2 ⟨rfl, hA⟩; have HB3 := hide (HB2.out.keep hA); clear hA cc m0 m1 m2 HB2))
              go_ret
              exact ⟨by simp, HN.out ▸ HB3.out.bel⟩
            · have hbx : Hid (hasVS x regs last = true) := hide hbx0
              have hby : Hid (hasVS y regs last = false) := hide hby0
              have hbj : Hid (hasVS z regs last = true) := hide (hj.1 hbx0)
              clear hbx0 hby0 hj
              have m0 := HB.out.b3.c0
              have m1 := HB.out.b3.c1
              have m2 := HB.out.b3.c2
              go_wp2_with (first | (go_at_call 36; have cc := hasr_S HB.out.rx HO.out.1 (by omega) a2 g2 c2 d2 regs last HB.out.r1 HB.out.r2 HRI2.out l8 m8; rw [hbx.out] at cc; refine cc.mono ?_; rintro e wx0 ⟨rfl, hA⟩; have HB1 := hide (HB.out.keep hA); clear hA cc m0 m1 m2 HB; have m0 := HB1.out.b9.c0; have m1 := HB1.out.b9.c1; have m2 := HB1.out.b9.c2) | (go_at_call 35; have cc := has_S HB1.out.rj HZ.out.2 (by omega) a2 g2 c2 d2 regs last HB1.out.r1 HB1.out.r2; rw [hbj.out] at cc; refine cc.mono ?_; rintro e wx1 ⟨rfl, hA⟩; have HB2 := hide (HB1.out.keep hA); clear hA cc m0 m1 m2 HB1; have m0 := HB2.out.b4.c0; have m1 := HB2.out.b4.c1; have m2 := HB2.out.b4.c2) | (go_at_call 36; have cc := hasr_S HB2.out.ry HO.out.2 (by omega) a2 g2 c2 d2 regs last HB2.out.r1 HB2.out.r2 HRI2.out l8 m8; rw [hby.out] at cc; refine cc.mono ?_; rintro e wx2 ⟨rfl, hA⟩; have HB3 := hide (HB2.out.keep hA); clear hA cc m0 m1 m2 HB2))
              go_ret
              exact ⟨by simp, HN.out ▸ HB3.out.bel⟩
            · have hbx : Hid (hasVS x regs last = true) := hide hbx0
              have hby : Hid (hasVS y regs last = true) := hide hby0
              have hbj : Hid (hasVS z regs last = true) := hide (hj.1 hbx0)
              clear hbx0 hby0 hj
              have m0 := HB.out.b3.c0
              have m1 := HB.out.b3.c1
              have m2 := HB.out.b3.c2
              go_wp2_with (first | (go_at_call 36; have cc := hasr_S HB.out.rx HO.out.1 (by omega) a2 g2 c2 d2 regs last HB.out.r1 HB.out.r2 HRI2.out l8 m8; rw [hbx.out] at cc; refine cc.mono ?_; rintro e wx0 ⟨rfl, hA⟩; have HB1 := hide (HB.out.keep hA); clear hA cc m0 m1 m2 HB; have m0 := HB1.out.b9.c0; have m1 := HB1.out.b9.c1; have m2 := HB1.out.b9.c2) | (go_at_call 35; have cc := has_S HB1.out.rj HZ.out.2 (by omega) a2 g2 c2 d2 regs last HB1.out.r1 HB1.out.r2; rw [hbj.out] at cc; refine cc.mono ?_; rintro e wx1 ⟨rfl, hA⟩; have HB2 := hide (HB1.out.keep hA); clear hA cc m0 m1 m2 HB1; have m0 := HB2.out.b4.c0; have m1 := HB2.out.b4.c1; have m2 := HB2.out.b4.c2) | (go_at_call 36; have cc := hasr_S HB2.out.ry HO.out.2 (by omega) a2 g2 c2 d2 regs last HB2.out.r1 HB2.out.r2 HRI2.out l8 m8; rw [hby.out] at cc; refine cc.mono ?_; rintro e wx2 ⟨rfl, hA⟩; have HB3 := hide (HB2.out.keep hA); clear hA cc m0 m1 m2 HB2; have m0 := HB3.out.b9.c0; have m1 := HB3.out.b9.c1; have m2 := HB3.out.b9.c2) | (go_at_call 35; have cc := has_S HB3.out.rj HZ.out.2 (by omega) a2 g2 c2 d2 regs last HB3.out.r1 HB3.out.r2; rw [hbj.out] at cc; refine cc.mono ?_; rintro e wx3 ⟨rfl, hA⟩; have HB4 := hide (HB3.out.keep hA); clear hA cc m0 m1 m2 HB3))
              go_ret
              exact ⟨by simp, HN.out ▸ HB4.out.bel⟩
          · have HC : Hid (x.r = true → y.r = true → x.us.length = y.us.length) := hide (fun _ h => by rw [← HQ.out.2] at h; cases h)
            go_upto_region 8 with fail
            clear z0 z1 y0 y1 HL HQ
            have hj := has_join HO.out.1 HO.out.2 regs last HC.out
            rw [← HZ.out.1] at hj
            cases hbx0 : hasVS x regs last <;> cases hby0 : hasVS y regs last
            · have hbx : Hid (hasVS x regs last = false) := hide hbx0
              have hby : Hid (hasVS y regs last = false) := hide hby0
              clear hbx0 hby0 hj
              have m0 := HB.out.b3.c0
              have m1 := HB.out.b3.c1
              have m2 := HB.out.b3.c2
              go_wp2_with (first | (go_at_call 36; have cc := hasr_S HB.out.rx HO.out.1 (by omega) a2 g2 c2 d2 regs last HB.out.r1 HB.out.r2 HRI2.out l8 m8; rw [hbx.out] at cc; refine cc.mono ?_; rintro e wx0 ⟨rfl, hA⟩; have HB1 := hide (HB.out.keep hA); clear hA cc m0 m1 m2 HB; have m0 := HB1.out.b4.c0; have m1 := HB1.out.b4.c1; have m2 := HB1.out.b4.c2) | (go_at_call 36; have cc := hasr_S HB1.out.ry HO.out.2 (by omega) a2 g2 c2 d2 regs last HB1.out.r1 HB1.out.r2 HRI2.out l8 m8; rw [hby.out] at cc; refine cc.mono ?_; rintro e wx1 ⟨rfl, hA⟩; have HB2 := hide (HB1.out.keep hA); clear hA cc m0 m1 m2 HB1))
              go_ret
              exact ⟨by simp, HN.out ▸ HB2.out.bel⟩
            · have hbx : Hid (hasVS x regs last = false) := hide hbx0
              have hby : Hid (hasVS y regs last = true) := hide hby0
              have hbj : Hid (hasVS z regs last = true) := hide (hj.2 hby0)
              clear hbx0 hby0 hj
              have m0 := HB.out.b3.c0
              have m1 := HB.out.b3.c1
              have m2 := HB.out.b3.c2
              go_wp2_with (first | (go_at_call 36; have cc := hasr_S HB.out.rx HO.out.1 (by omega) a2 g2 c2 d2 regs last HB.out.r1 HB.out.r2 HRI2.out l8 m8; rw [hbx.out] at cc; refine cc.mono ?_; rintro e wx0 ⟨rfl, hA⟩; have HB1 := hide (HB.out.keep hA); clear hA cc m0 m1 m2 HB; have m0 := HB1.out.b4.c0; have m1 := HB1.out.b4.c1; have m2 := HB1.out.b4.c2) | (go_at_call 36; have cc := hasr_S HB1.out.ry HO.out.2 (by omega) a2 g2 c2 d2 regs last HB1.out.r1 HB1.out.r2 HRI2.out l8 m8; rw [hby.out] at cc; refine cc.mono ?_; rintro e wx1 ⟨rfl, hA⟩; have HB2 := hide (HB1.out.keep hA); clear hA cc m0 m1 m2 HB1; have m0 := HB2.out.b9.c0; have m1 := HB2.out.b9.c1; have m2 := HB2.out.b9.c2) | (go_at_call 35; have cc := has_S HB2.out.rj HZ.out.2 (by omega) a2 g2 c2 d2 regs last HB2.out.r1 HB2.out.r2; rw [hbj.out] at cc; refine cc.mono ?_; rintro e wx2 ⟨rfl, hA⟩; have HB3 := hide (HB2.out.keep hA); clear hA cc m0 m1 m2 HB2))
              go_ret
              exact ⟨by simp, HN.out ▸ HB3.out.bel⟩
            · have hbx : Hid (hasVS x regs last = true) := hide hbx0
              have hby : Hid (hasVS y regs last = false) := hide hby0
              have hbj : Hid (hasVS z regs last = true) := hide (hj.1 hbx0)
              clear hbx0 hby0 hj
              have m0 := HB.out.b3.c0
              have m1 := HB.out.b3.c1
              have m2 := HB.out.b3.c2
              go_wp2_with (first | (go_at_call 36; have cc := hasr_S HB.out.rx HO.out.1 (by omega) a2 g2 c2 d2 regs last HB.out.r1 HB.out.r2 HRI2.out l8 m8; rw [hbx.out] at cc; refine cc.mono ?_; rintro e wx0 ⟨rfl, hA⟩; have HB1 := hide (HB.out.keep hA); clear hA cc m0 m1 m2 HB; have m0 := HB1.out.b9.c0; have m1 := HB1.out.b9.c1; have m2 := HB1.out.b9.c2) | (go_at_call 35; have cc := has_S HB1.out.rj HZ.out.2 (by omega) a2 g2 c2 d2 regs last HB1.out.r1 HB1.out.r2; rw [hbj.out] at cc; refine cc.mono ?_; rintro e wx1 ⟨rfl, hA⟩; have HB2 := hide (HB1.out.keep hA); clear hA cc m0 m1 m2 HB1; have m0 := HB2.out.b4.c0; have m1 := HB2.out.b4.c1; have m2 := HB2.out.b4.c2) | (go_at_call 36; have cc := hasr_S HB2.out.ry HO.out.2 (by omega) a2 g2 c2 d2 regs last HB2.out.r1 HB2.out.r2 HRI2.out l8 m8; rw [hby.out] at cc; refine cc.mono ?_; rintro e wx2 ⟨rfl, hA⟩; have HB3 := hide (HB2.out.keep hA); clear hA cc m0 m1 m2 HB2))
              go_ret
              exact ⟨by simp, HN.out ▸ HB3.out.bel⟩
            · have hbx : Hid (hasVS x regs last = true) := hide hbx0
              have hby : Hid (hasVS y regs last = true) := hide hby0
              have hbj : Hid (hasVS z regs last = true) := hide (hj.1 hbx0)
              clear hbx0 hby0 hj
              have m0 := HB.out.b3.c0
              have m1 := HB.out.b3.c1
              have m2 := HB.out.b3.c2
              go_wp2_with (first | (go_at_call 36; have cc := hasr_S HB.out.rx HO.out.1 (by omega) a2 g2 c2 d2 regs last HB.out.r1 HB.out.r2 HRI2.out l8 m8; rw [hbx.out] at cc; refine cc.mono ?_; rintro e wx0 ⟨rfl, hA⟩; have HB1 := hide (HB.out.keep hA); clear hA cc m0 m1 m2 HB; have m0 := HB1.out.b9.c0; have m1 := HB1.out.b9.c1; have m2 := HB1.out.b9.c2) | (go_at_call 35; have cc := has_S HB1.out.rj HZ.out.2 (by omega) a2 g2 c2 d2 regs last HB1.out.r1 HB1.out.r2; rw [hbj.out] at cc; refine cc.mono ?_; rintro e wx1 ⟨rfl, hA⟩; have HB2 := hide (HB1.out.keep hA); clear hA cc m0 m1 m2 HB1; have m0 := HB2.out.b4.c0; have m1 := HB2.out.b4.c1; have m2 := HB2.out.b4.c2) | (go_at_call 36; have cc := hasr_S HB2.out.ry HO.out.2 (by omega) a2 g2 c2 d2 regs last HB2.out.r1 HB2.out.r2 HRI2.out l8 m8; rw [hby.out] at cc; refine cc.mono ?_; rintro e wx2 ⟨rfl, hA⟩; have HB3 := hide (HB2.out.keep hA); clear hA cc m0 m1 m2 HB2; have m0 := HB3.out.b9.c0; have m1 := HB3.out.b9.c1; have m2 := HB3.out.b9.c2) | (go_at_call 35; have cc := has_S HB3.out.rj HZ.out.2 (by omega) a2 g2 c2 d2 regs last HB3.out.r1 HB3.out.r2; rw [hbj.out] at cc; refine cc.mono ?_; rintro e wx3 ⟨rfl, hA⟩; have HB4 := hide (HB3.out.keep hA); clear hA cc m0 m1 m2 HB3))
              go_ret
              exact ⟨by simp, HN.out ▸ HB4.out.bel⟩
          · have HC : Hid (x.r = true → y.r = true → x.us.length = y.us.length) := hide (fun _ _ => by have := HL.out; omega)
            go_upto_region 8 with fail
            clear z0 z1 y0 y1 HL HQ
            have hj := has_join HO.out.1 HO.out.2 regs last HC.out
            rw [← HZ.out.1] at hj
            cases hbx0 : hasVS x regs last <;> cases hby0 : hasVS y regs last
            · have hbx : Hid (hasVS x regs last = false) := hide hbx0
              have hby : Hid (hasVS y regs last = false) := hide hby0
              clear hbx0 hby0 hj
              have m0 := HB.out.b3.c0
              have m1 := HB.out.b3.c1
              have m2 := HB.out.b3.c2
              go_wp2_with (first | (go_at_call 36; have cc := hasr_S HB.out.rx HO.out.1 (by omega) a2 g2 c2 d2 regs last HB.out.r1 HB.out.r2 HRI2.out l8 m8; rw [hbx.out] at cc; refine cc.mono ?_; rintro e wx0 ⟨rfl, hA⟩; have HB1 := hide (HB.out.keep hA); clear hA cc m0 m1 m2 HB; have m0 := HB1.out.b4.c0; have m1 := HB1.out.b4.c1; have m2 := HB1.out.b4.c2) | (go_at_call 36; have cc := hasr_S HB1.out.ry HO.out.2 (by omega) a2 g2 c2 d2 regs last HB1.out.r1 HB1.out.r2 HRI2.out l8 m8; rw [hby.out] at cc; refine cc.mono ?_; rintro e wx1 ⟨rfl, hA⟩; have HB2 := hide (HB1.out.keep hA); clear hA cc m0 m1 m2 HB1))
              go_ret
              exact ⟨by simp, HN.out ▸ HB2.out.bel⟩
            · have hbx : Hid (hasVS x regs last = false) := hide hbx0
              have hby : Hid (hasVS y regs last = true) := hide hby0
              have hbj : Hid (hasVS z regs last = true) := hide (hj.2 hby0)
              clear hbx0 hby0 hj
              have m0 := HB.out.b3.c0
              have m1 := HB.out.b3.c1
              have m2 := HB.out.b3.c2
              go_wp2_with (first | (go_at_call 36; have cc := hasr_S HB.out.rx HO.out.1 (by omega) a2 g2 c2 d2 regs last HB.out.r1 HB.out.r2 HRI2.out l8 m8; rw [hbx.out] at cc; refine cc.mono ?_; rintro e wx0 ⟨rfl, hA⟩; have HB1 := hide (HB.out.keep hA); clear hA cc m0 m1 m2 HB; have m0 := HB1.out.b4.c0; have m1 := HB1.out.b4.c1; have m2 := HB1.out.b4.c2) | (go_at_call 36; have cc := hasr_S HB1.out.ry HO.out.2 (by omega) a2 g2 c2 d2 regs last HB1.out.r1 HB1.out.r2 HRI2.out l8 m8; rw [hby.out] at cc; refine cc.mono ?_; rintro e wx1 ⟨rfl, hA⟩; have HB2 := hide (HB1.out.keep hA); clear hA cc m0 m1 m2 HB1; have m0 := HB2.out.b9.c0; have m1 := HB2.out.b9.c1; have m2 := HB2.out.b9.c2) | (go_at_call 35; have cc := has_S HB2.out.rj HZ.out.2 (by omega) a2 g2 c2 d2 regs last HB2.out.r1 HB2.out.r2; rw [hbj.out] at cc; refine cc.mono ?_; rintro e wx2 ⟨rfl, hA⟩; have HB3 := hide (HB2.out.keep hA); clear hA cc m0 m1 m2 HB2))
              go_ret
              exact ⟨by simp, HN.out ▸ HB3.out.bel⟩
            · have hbx : Hid (hasVS x regs last = true) := hide hbx0
              have hby : Hid (hasVS y regs last = false) := hide hby0
              have hbj : Hid (hasVS z regs last = true) := hide (hj.1 hbx0)
              clear hbx0 hby0 hj
              have m0 := HB.out.b3.c0
              have m1 := HB.out.b3.c1
              have m2 := HB.out.b3.c2
              go_wp2_with (first | (go_at_call 36; have cc := hasr_S HB.out.rx HO.out.1 (by omega) a2 g2 c2 d2 regs last HB.out.r1 HB.out.r2 HRI2.out l8 m8; rw [hbx.out] at cc; refine cc.mono ?_; rintro e wx0 ⟨rfl, hA⟩; have HB1 := hide (HB.out.keep hA); clear hA cc m0 m1 m2 HB; have m0 := HB1.out.b9.c0; have m1 := HB1.out.b9.c1; have m2 := HB1.out.b9.c2) | (go_at_call 35; have cc := has_S HB1.out.rj HZ.out.2 (by omega) a2 g2 c2 d2 regs last HB1.out.r1 HB1.out.r2; rw [hbj.out] at cc; refine cc.mono ?_; rintro e wx1 ⟨rfl, hA⟩; have HB2 := hide (HB1.out.keep hA); clear hA cc m0 m1 m2 HB1; have m0 := HB2.out.b4.c0; have m1 := HB2.out.b4.c1; have m2 := HB2.out.b4.c2) | (go_at_call 36; have cc := hasr_S HB2.out.ry HO.out.2 (by omega) a2 g2 c2 d2 regs last HB2.out.r1 HB2.out.r2 HRI2.out l8 m8; rw [hby.out] at cc; refine cc.mono ?_; rintro e wx2 ⟨rfl, hA⟩; have HB3 := hide (HB2.out.keep hA); clear hA cc m0 m1 m2 HB2))
              go_ret
              exact ⟨by simp, HN.out ▸ HB3.out.bel⟩
            · have hbx : Hid (hasVS x regs last = true) := hide hbx0
              have hby : Hid (hasVS y regs last = true) := hide hby0
              have hbj : Hid (hasVS z regs last = true) := hide (hj.1 hbx0)
              clear hbx0 hby0 hj
              have m0 := HB.out.b3.c0
              have m1 := HB.out.b3.c1
              have m2 := HB.out.b3.c2
              go_wp2_with (first | (go_at_call 36; have cc := hasr_S HB.out.rx HO.out.1 (by omega) a2 g2 c2 d2 regs last HB.out.r1 HB.out.r2 HRI2.out l8 m8; rw [hbx.out] at cc; refine cc.mono ?_; rintro e wx0 ⟨rfl, hA⟩; have HB1 := hide (HB.out.keep hA); clear hA cc m0 m1 m2 HB; have m0 := HB1.out.b9.c0; have m1 := HB1.out.b9.c1; have m2 := HB1.out.b9.c2) | (go_at_call 35; have cc := has_S HB1.out.rj HZ.out.2 (by omega) a2 g2 c2 d2 regs last HB1.out.r1 HB1.out.r2; rw [hbj.out] at cc; refine cc.mono ?_; rintro e wx1 ⟨rfl, hA⟩; have HB2 := hide (HB1.out.keep hA); clear hA cc m0 m1 m2 HB1; have m0 := HB2.out.b4.c0; have m1 := HB2.out.b4.c1; have m2 := HB2.out.b4.c2) | (go_at_call 36; have cc := hasr_S HB2.out.ry HO.out.2 (by omega) a2 g2 c2 d2 regs last HB2.out.r1 HB2.out.r2 HRI2.out l8 m8; rw [hby.out] at cc; refine cc.mono ?_; rintro e wx2 ⟨rfl, hA⟩; have HB3 := hide (HB2.out.keep hA); clear hA cc m0 m1 m2 HB2; have m0 := HB3.out.b9.c0; have m1 := HB3.out.b9.c1; have m2 := HB3.out.b9.c2) | (go_at_call 35; have cc := has_S HB3.out.rj HZ.out.2 (by omega) a2 g2 c2 d2 regs last HB3.out.r1 HB3.out.r2; rw [hbj.out] at cc; refine cc.mono ?_; rintro e wx3 ⟨rfl, hA⟩; have HB4 := hide (HB3.out.keep hA); clear hA cc m0 m1 m2 HB3))
              go_ret
              exact ⟨by simp, HN.out ▸ HB4.out.bel⟩
          · go_wp2
            go_ret
            exact ⟨by simp, HN.out ▸ HB.out.bel⟩
          
end Go.Proofs.Ytmhicllhjiglkaa
