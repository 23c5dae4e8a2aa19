import Derived.Test.YthiacdbjlkpfgaaGreatDoorG10
import Derived.Test.YthiacdbjlkpfgaaGreatDoorG24
import Derived.Test.YthiacdbjlkpfgaaGreatDoorG25
import Derived.Test.YthiacdbjlkpfgaaGreatDoorG05
import Derived.Test.YthiacdbjlkpfgaaGreatDoorG01
namespace Go.Proofs.YthiacdbjlkpfgaaGreatDoor
open Go.RowKit
structure R where
  s : Int
  k : Bool
  n : Int
  lo : Int
  hi : Int
  p : Int
def R.fit (A : R) : Prop := i64 A.n ∧ i64 A.lo ∧ i64 A.hi
theorem globS_at {w v : World} {N : Nat} (hN : N = w.heap.size) (h : GlobS w) (hb : Below N w v) : GlobS v := h.keep (hN ▸ hb)
theorem globP_at {w v : World} {N : Nat} (hN : N = w.heap.size) (h : GlobP w) (hb : Below N w v) : GlobP v := h.keep (hN ▸ hb)
set_option maxRecDepth 100000 in
set_option maxHeartbeats 32000000 in
theorem fmakes_walk (op : Int) (A B : R) (w : World) (G : GlobS w) (GP : GlobP w) (hA : A.fit) (hB : B.fit) : Calls Tryz.prog 3 #[.int .i64 op, .agg #[.int .i64 A.s, .bool A.k, .int .i64 A.n, .int .i64 A.lo, .int .i64 A.hi, .int .i64 A.p], .agg #[.int .i64 B.s, .bool B.k, .int .i64 B.n, .int .i64 B.lo, .int .i64 B.hi, .int .i64 B.p]] w fun e w' => e = .returned (.bool true) ∧ Below w.heap.size w w' := by
  have cA := fun w => fix_V A.s A.k A.n A.lo A.hi A.p w
  have oX := fix_ok A.s A.k A.n A.lo A.hi A.p hA.1 hA.2.1 hA.2.2
  have cB := fun w => fix_V B.s B.k B.n B.lo B.hi B.p w
  have oY := fix_ok B.s B.k B.n B.lo B.hi B.p hB.1 hB.2.1 hB.2.2
  generalize fixV A.s A.k A.n A.lo A.hi A.p = X at *
  generalize fixV B.s B.k B.n B.lo B.hi B.p = Y at *
  clear hA hB
  have c1 := fun w => one_V op X w oX.sp
  have c2 := fun w => roner_V op X w oX.sp
  have cT := fun w G P => two_V op X Y w oX oY G P
  have cR := fun w => rtwor_V op X Y w oX oY
  clear oX oY
  generalize oneV op X = O at *
  generalize twoV op X Y = T at *
  obtain ⟨ox, jx⟩ := O
  obtain ⟨tx, ix⟩ := T
  dsimp only at c1 c2 cT cR
  have HG := hide (And.intro G GP)
  clear G GP
  have xg : Fz ((w.alloc (.cells #[.int .i64 A.s, .bool A.k, .int .i64 A.n, .int .i64 A.lo, .int .i64 A.hi, .int .i64 A.p] 27)).alloc (.cells #[.int .i64 B.s, .bool B.k, .int .i64 B.n, .int .i64 B.lo, .int .i64 B.hi, .int .i64 B.p] 27)) (w.heap.size) := (Fz.new w A.s A.k A.n A.lo A.hi A.p 27).keep (by simp) ((Below.refl _ _).alloc (Nat.le_refl _) _)
  have xh : Fz ((w.alloc (.cells #[.int .i64 A.s, .bool A.k, .int .i64 A.n, .int .i64 A.lo, .int .i64 A.hi, .int .i64 A.p] 27)).alloc (.cells #[.int .i64 B.s, .bool B.k, .int .i64 B.n, .int .i64 B.lo, .int .i64 B.hi, .int .i64 B.p] 27)) (w.heap.size + 1) := by simpa using Fz.new (w.alloc (.cells #[.int .i64 A.s, .bool A.k, .int .i64 A.n, .int .i64 A.lo, .int .i64 A.hi, .int .i64 A.p] 27)) B.s B.k B.n B.lo B.hi B.p 27
  have x0 : Br ((w.alloc (.cells #[.int .i64 A.s, .bool A.k, .int .i64 A.n, .int .i64 A.lo, .int .i64 A.hi, .int .i64 A.p] 27)).alloc (.cells #[.int .i64 B.s, .bool B.k, .int .i64 B.n, .int .i64 B.lo, .int .i64 B.hi, .int .i64 B.p] 27)) (w.heap.size) A.s A.k A.n A.lo A.hi A.p := ((Br.new w A.s A.k A.n A.lo A.hi A.p 27)).keep ((Below.refl _ _).alloc (Nat.le_refl _) _)
  have x1 : Br ((w.alloc (.cells #[.int .i64 A.s, .bool A.k, .int .i64 A.n, .int .i64 A.lo, .int .i64 A.hi, .int .i64 A.p] 27)).alloc (.cells #[.int .i64 B.s, .bool B.k, .int .i64 B.n, .int .i64 B.lo, .int .i64 B.hi, .int .i64 B.p] 27)) (w.heap.size + 1) B.s B.k B.n B.lo B.hi B.p := (by simpa using Br.new (w.alloc (.cells #[.int .i64 A.s, .bool A.k, .int .i64 A.n, .int .i64 A.lo, .int .i64 A.hi, .int .i64 A.p] 27)) B.s B.k B.n B.lo B.hi B.p 27 : Br ((w.alloc (.cells #[.int .i64 A.s, .bool A.k, .int .i64 A.n, .int .i64 A.lo, .int .i64 A.hi, .int .i64 A.p] 27)).alloc (.cells #[.int .i64 B.s, .bool B.k, .int .i64 B.n, .int .i64 B.lo, .int .i64 B.hi, .int .i64 B.p] 27)) (w.heap.size + 1) B.s B.k B.n B.lo B.hi B.p)
  have xb : Below w.heap.size w ((w.alloc (.cells #[.int .i64 A.s, .bool A.k, .int .i64 A.n, .int .i64 A.lo, .int .i64 A.hi, .int .i64 A.p] 27)).alloc (.cells #[.int .i64 B.s, .bool B.k, .int .i64 B.n, .int .i64 B.lo, .int .i64 B.hi, .int .i64 B.p] 27)) := (by repeat (first | exact Below.refl _ _ | (refine Below.drew ?_) | (refine below_drewN ?_ _) | (refine Below.setCell ?_ (by first | omega | (simp; done) | (simp; omega)) _) | (refine Below.alloc ?_ (by first | omega | (simp; done) | (simp; omega)) _) | (refine Below.trans ?_ (Below.mono (by assumption) (by first | omega | (simp; done) | (simp; omega))))))
  go_enter Tryz.func3, Tryz.ntmps3
  go_upto_region 1 with fail
  go_name_world W hW
  rw [hW] at x0 x1 xb xg xh
  clear hW
  obtain ⟨N, hN⟩ : ∃ N, N = w.heap.size := ⟨_, rfl⟩
  rw [← hN] at x0 x1 xb xg xh ⊢
  have HN : Hid (N = w.heap.size) := hN
  clear hN
  have R := hide (And.intro x0 (And.intro x1 (And.intro xg (And.intro xh xb))))
  clear x0 x1 xg xh xb
  have HCL : Hid (∀ a b : World, (N + 1 < a.heap.size ∧ Hid (Below N w a)) → Below a.heap.size a b → (N + 1 < b.heap.size ∧ Hid (Below N w b))) := fun a b h hb => ⟨Nat.lt_of_lt_of_le h.1 hb.size, h.2.out.trans (hb.mono (Nat.le_trans (Nat.le_succ _) (Nat.le_of_lt h.1)))⟩
  have HPUT : Hid (∀ (a : World) (q : Nat) (t1 t2 t3 t4 t5 t6 : Value), N ≤ q → (N + 1 < a.heap.size ∧ Hid (Below N w a)) → (N + 1 < (st6 a q t1 t2 t3 t4 t5 t6).heap.size ∧ Hid (Below N w (st6 a q t1 t2 t3 t4 t5 t6)))) := fun a q t1 t2 t3 t4 t5 t6 hq h => ⟨by rw [st6_size]; exact h.1, st6_below h.2.out q hq _ _ _ _ _ _⟩
  go_cut [6] (fun v6 wx => v6 = .bool false ∧ Hid (Br wx N (up X.s) X.k X.n X.lo X.hi (up X.p) ∧ Br wx (N + 1) (up Y.s) Y.k Y.n Y.lo Y.hi (up Y.p) ∧ Below N w wx))
  case first =>
    refine wp_region_held_drew (S := fun w' => N + 1 < w'.heap.size ∧ Hid (Below N w w')) (by kernel_rfl) (HCL.out _ _ ⟨R.out.2.1.lt, R.out.2.2.2.2⟩ ((Below.refl _ _).drew)) (fun hH0 => ?_)
    have P0 := R.out.1.keep ((Below.refl W.heap.size W).drew)
    have Q0 := R.out.2.1.keep ((Below.refl W.heap.size W).drew)
    have FP0 := R.out.2.2.1.keep R.out.1.lt ((Below.refl W.heap.size W).drew)
    have FQ0 := R.out.2.2.2.1.keep R.out.2.1.lt ((Below.refl W.heap.size W).drew)
    obtain ⟨w0, hw0⟩ : ∃ w0, w0 = W.drew := ⟨_, rfl⟩
    rw [← hw0] at hH0 P0 Q0 FP0 FQ0 ⊢
    clear hw0
    refine wpAnyH_ready (rs := [0, 2]) (by kernel_rfl) (by simp) ?_
    refine AllReadyH.cons (o := ({ dst := some 12, op := Op.load 27 (Operand.tmp 4), type := 27, pos := "law.go:43", after := #[], guard := none } : Oper)) rfl (fun K hK => ?_) (AllReadyH.cons (o := ({ dst := some 14, op := Op.load 27 (Operand.tmp 5), type := 27, pos := "law.go:43", after := #[], guard := none } : Oper)) rfl (fun K hK => ?_) AllReadyH.nil)
    · have c0 := P0.c0
      have c1 := P0.c1
      have c2 := P0.c2
      have c3 := P0.c3
      have c4 := P0.c4
      have c5 := P0.c5
      have d0 := Q0.c0
      have d1 := Q0.c1
      have d2 := Q0.c2
      have d3 := Q0.c3
      have d4 := Q0.c4
      have d5 := Q0.c5
      go_simp
      refine hK.out _ _ hH0 (fun _ => ?_)
      clear hK K c0 c1 c2 c3 c4 c5 d0 d1 d2 d3 d4 d5
      refine wpAnyH_ready (rs := [1, 2]) (by kernel_rfl) (by simp) ?_
      refine AllReadyH.cons (o := ({ dst := some 13, op := Op.call { callee := Callee.value (Operand.func 4), args := #[Operand.tmp 12], argTypes := #[27] }, type := 27, pos := "law.go:43", after := #[{ on := 0, ground := Ground.data }], guard := none } : Oper)) rfl (fun K hK => ?_) (AllReadyH.cons (o := ({ dst := some 14, op := Op.load 27 (Operand.tmp 5), type := 27, pos := "law.go:43", after := #[], guard := none } : Oper)) rfl (fun K hK => ?_) AllReadyH.nil)
      · go_simp
        go_at_call 4
        refine (cA _).mono ?_
        rintro e w1 ⟨rfl, hb⟩
        have P1 := P0.keep hb
        have Q1 := Q0.keep hb
        have FP1 := FP0.keep P0.lt hb
        have FQ1 := FQ0.keep Q0.lt hb
        refine hK.out _ _ (HCL.out _ _ hH0 hb) (fun hH1 => ?_)
        clear hK K hb P0 Q0 FP0 FQ0 hH0
        refine wpAnyH_ready (rs := [2]) (by kernel_rfl) (by simp) ?_
        refine AllReadyH.cons (o := ({ dst := some 14, op := Op.load 27 (Operand.tmp 5), type := 27, pos := "law.go:43", after := #[], guard := none } : Oper)) rfl (fun K hK => ?_) AllReadyH.nil
        · have c0 := P1.c0
          have c1 := P1.c1
          have c2 := P1.c2
          have c3 := P1.c3
          have c4 := P1.c4
          have c5 := P1.c5
          have d0 := Q1.c0
          have d1 := Q1.c1
          have d2 := Q1.c2
          have d3 := Q1.c3
          have d4 := Q1.c4
          have d5 := Q1.c5
          go_simp
          refine hK.out _ _ hH1 (fun _ => ?_)
          clear hK K c0 c1 c2 c3 c4 c5 d0 d1 d2 d3 d4 d5
          refine wpAnyH_ready (rs := [3]) (by kernel_rfl) (by simp) ?_
          refine AllReadyH.cons (o := ({ dst := some 15, op := Op.call { callee := Callee.value (Operand.func 4), args := #[Operand.tmp 14], argTypes := #[27] }, type := 27, pos := "law.go:43", after := #[{ on := 2, ground := Ground.data }, { on := 1, ground := Ground.chain }], guard := none } : Oper)) rfl (fun K hK => ?_) AllReadyH.nil
          · go_simp
            go_at_call 4
            refine (cB _).mono ?_
            rintro e w2 ⟨rfl, hb⟩
            have P2 := P1.keep hb
            have Q2 := Q1.keep hb
            have FP2 := FP1.keep P1.lt hb
            have FQ2 := FQ1.keep Q1.lt hb
            refine hK.out _ _ (HCL.out _ _ hH1 hb) (fun hH2 => ?_)
            clear hK K hb P1 Q1 FP1 FQ1 hH1
            refine wpAnyH_ready (rs := [4]) (by kernel_rfl) (by simp) ?_
            refine AllReadyH.cons (o := ({ dst := none, op := Op.store 27 (Operand.tmp 4) (Operand.tmp 13), type := 0, pos := "law.go:43", after := #[{ on := 1, ground := Ground.data }, { on := 3, ground := Ground.chain }, { on := 0, ground := Ground.phase }, { on := 1, ground := Ground.phase }, { on := 2, ground := Ground.textOnly Departure.lateStores }, { on := 3, ground := Ground.textOnly Departure.lateStoresUnsure }], guard := none } : Oper)) rfl (fun K hK => ?_) AllReadyH.nil
            · have c0 := P2.c0
              have c1 := P2.c1
              have c2 := P2.c2
              have c3 := P2.c3
              have c4 := P2.c4
              have c5 := P2.c5
              have f0 := FP2.f0
              have f1 := FP2.f1
              have f2 := FP2.f2
              have f3 := FP2.f3
              have f4 := FP2.f4
              have f5 := FP2.f5
              go_simp
              have P3 := P2.wrote (up X.s) X.k X.n X.lo X.hi (up X.p)
              have Q3 := Q2.put (q := N) (by omega) (.int .i64 (up X.s)) (.bool X.k) (.int .i64 X.n) (.int .i64 X.lo) (.int .i64 X.hi) (.int .i64 (up X.p))
              have FP3 := FP2.put (q := N) (.int .i64 (up X.s)) (.bool X.k) (.int .i64 X.n) (.int .i64 X.lo) (.int .i64 X.hi) (.int .i64 (up X.p))
              have FQ3 := FQ2.put (q := N) (.int .i64 (up X.s)) (.bool X.k) (.int .i64 X.n) (.int .i64 X.lo) (.int .i64 X.hi) (.int .i64 (up X.p))
              refine hK.out _ _ (HPUT.out _ N _ _ _ _ _ _ (by omega) hH2) (fun hH3 => ?_)
              clear hK K c0 c1 c2 c3 c4 c5 f0 f1 f2 f3 f4 f5
              obtain ⟨w3, hw3⟩ : ∃ x, x = ((((((w2.setCell ⟨N, 0, none⟩ (.int .i64 (up X.s))).setCell ⟨N, 1, none⟩ (.bool X.k)).setCell ⟨N, 2, none⟩ (.int .i64 X.n)).setCell ⟨N, 3, none⟩ (.int .i64 X.lo)).setCell ⟨N, 4, none⟩ (.int .i64 X.hi)).setCell ⟨N, 5, none⟩ (.int .i64 (up X.p))) := ⟨_, rfl⟩
              unfold st6 at hH3 P3 Q3 FP3 FQ3
              rw [← hw3] at hH3 P3 Q3 FP3 FQ3 ⊢
              clear hw3 P2 Q2 FP2 FQ2 hH2
              refine wpAnyH_ready (rs := [5]) (by kernel_rfl) (by simp) ?_
              refine AllReadyH.cons (o := ({ dst := none, op := Op.store 27 (Operand.tmp 5) (Operand.tmp 15), type := 0, pos := "law.go:43", after := #[{ on := 3, ground := Ground.data }, { on := 4, ground := Ground.chain }, { on := 0, ground := Ground.phase }, { on := 1, ground := Ground.phase }, { on := 2, ground := Ground.phase }, { on := 3, ground := Ground.phase }, { on := 4, ground := Ground.phase }], guard := none } : Oper)) rfl (fun K hK => ?_) AllReadyH.nil
              · have c0 := Q3.c0
                have c1 := Q3.c1
                have c2 := Q3.c2
                have c3 := Q3.c3
                have c4 := Q3.c4
                have c5 := Q3.c5
                have f0 := FQ3.f0
                have f1 := FQ3.f1
                have f2 := FQ3.f2
                have f3 := FQ3.f3
                have f4 := FQ3.f4
                have f5 := FQ3.f5
                go_simp
                have Q4 := Q3.wrote (up Y.s) Y.k Y.n Y.lo Y.hi (up Y.p)
                have P4 := P3.put (q := (N + 1)) (by omega) (.int .i64 (up Y.s)) (.bool Y.k) (.int .i64 Y.n) (.int .i64 Y.lo) (.int .i64 Y.hi) (.int .i64 (up Y.p))
                have FP4 := FP3.put (q := (N + 1)) (.int .i64 (up Y.s)) (.bool Y.k) (.int .i64 Y.n) (.int .i64 Y.lo) (.int .i64 Y.hi) (.int .i64 (up Y.p))
                have FQ4 := FQ3.put (q := (N + 1)) (.int .i64 (up Y.s)) (.bool Y.k) (.int .i64 Y.n) (.int .i64 Y.lo) (.int .i64 Y.hi) (.int .i64 (up Y.p))
                refine hK.out _ _ (HPUT.out _ (N + 1) _ _ _ _ _ _ (by omega) hH3) (fun hH4 => ?_)
                clear hK K c0 c1 c2 c3 c4 c5 f0 f1 f2 f3 f4 f5
                obtain ⟨w4, hw4⟩ : ∃ x, x = ((((((w3.setCell ⟨N + 1, 0, none⟩ (.int .i64 (up Y.s))).setCell ⟨N + 1, 1, none⟩ (.bool Y.k)).setCell ⟨N + 1, 2, none⟩ (.int .i64 Y.n)).setCell ⟨N + 1, 3, none⟩ (.int .i64 Y.lo)).setCell ⟨N + 1, 4, none⟩ (.int .i64 Y.hi)).setCell ⟨N + 1, 5, none⟩ (.int .i64 (up Y.p))) := ⟨_, rfl⟩
                unfold st6 at hH4 P4 Q4 FP4 FQ4
                rw [← hw4] at hH4 P4 Q4 FP4 FQ4 ⊢
                clear hw4 P3 Q3 FP3 FQ3 hH3
                refine wpAnyH_done (by kernel_rfl) ?_ _
                go_wp2
                go_meet
                case rel => exact ⟨rfl, P4, Q4, hH4.2.out⟩
      · have c0 := P0.c0
        have c1 := P0.c1
        have c2 := P0.c2
        have c3 := P0.c3
        have c4 := P0.c4
        have c5 := P0.c5
        have d0 := Q0.c0
        have d1 := Q0.c1
        have d2 := Q0.c2
        have d3 := Q0.c3
        have d4 := Q0.c4
        have d5 := Q0.c5
        go_simp
        refine hK.out _ _ hH0 (fun _ => ?_)
        clear hK K c0 c1 c2 c3 c4 c5 d0 d1 d2 d3 d4 d5
        refine wpAnyH_ready (rs := [1]) (by kernel_rfl) (by simp) ?_
        refine AllReadyH.cons (o := ({ dst := some 13, op := Op.call { callee := Callee.value (Operand.func 4), args := #[Operand.tmp 12], argTypes := #[27] }, type := 27, pos := "law.go:43", after := #[{ on := 0, ground := Ground.data }], guard := none } : Oper)) rfl (fun K hK => ?_) AllReadyH.nil
        · go_simp
          go_at_call 4
          refine (cA _).mono ?_
          rintro e w1 ⟨rfl, hb⟩
          have P1 := P0.keep hb
          have Q1 := Q0.keep hb
          have FP1 := FP0.keep P0.lt hb
          have FQ1 := FQ0.keep Q0.lt hb
          refine hK.out _ _ (HCL.out _ _ hH0 hb) (fun hH1 => ?_)
          clear hK K hb P0 Q0 FP0 FQ0 hH0
          refine wpAnyH_ready (rs := [3]) (by kernel_rfl) (by simp) ?_
          refine AllReadyH.cons (o := ({ dst := some 15, op := Op.call { callee := Callee.value (Operand.func 4), args := #[Operand.tmp 14], argTypes := #[27] }, type := 27, pos := "law.go:43", after := #[{ on := 2, ground := Ground.data }, { on := 1, ground := Ground.chain }], guard := none } : Oper)) rfl (fun K hK => ?_) AllReadyH.nil
          · go_simp
            go_at_call 4
            refine (cB _).mono ?_
            rintro e w2 ⟨rfl, hb⟩
            have P2 := P1.keep hb
            have Q2 := Q1.keep hb
            have FP2 := FP1.keep P1.lt hb
            have FQ2 := FQ1.keep Q1.lt hb
            refine hK.out _ _ (HCL.out _ _ hH1 hb) (fun hH2 => ?_)
            clear hK K hb P1 Q1 FP1 FQ1 hH1
            refine wpAnyH_ready (rs := [4]) (by kernel_rfl) (by simp) ?_
            refine AllReadyH.cons (o := ({ dst := none, op := Op.store 27 (Operand.tmp 4) (Operand.tmp 13), type := 0, pos := "law.go:43", after := #[{ on := 1, ground := Ground.data }, { on := 3, ground := Ground.chain }, { on := 0, ground := Ground.phase }, { on := 1, ground := Ground.phase }, { on := 2, ground := Ground.textOnly Departure.lateStores }, { on := 3, ground := Ground.textOnly Departure.lateStoresUnsure }], guard := none } : Oper)) rfl (fun K hK => ?_) AllReadyH.nil
            · have c0 := P2.c0
              have c1 := P2.c1
              have c2 := P2.c2
              have c3 := P2.c3
              have c4 := P2.c4
              have c5 := P2.c5
              have f0 := FP2.f0
              have f1 := FP2.f1
              have f2 := FP2.f2
              have f3 := FP2.f3
              have f4 := FP2.f4
              have f5 := FP2.f5
              go_simp
              have P3 := P2.wrote (up X.s) X.k X.n X.lo X.hi (up X.p)
              have Q3 := Q2.put (q := N) (by omega) (.int .i64 (up X.s)) (.bool X.k) (.int .i64 X.n) (.int .i64 X.lo) (.int .i64 X.hi) (.int .i64 (up X.p))
              have FP3 := FP2.put (q := N) (.int .i64 (up X.s)) (.bool X.k) (.int .i64 X.n) (.int .i64 X.lo) (.int .i64 X.hi) (.int .i64 (up X.p))
              have FQ3 := FQ2.put (q := N) (.int .i64 (up X.s)) (.bool X.k) (.int .i64 X.n) (.int .i64 X.lo) (.int .i64 X.hi) (.int .i64 (up X.p))
              refine hK.out _ _ (HPUT.out _ N _ _ _ _ _ _ (by omega) hH2) (fun hH3 => ?_)
              clear hK K c0 c1 c2 c3 c4 c5 f0 f1 f2 f3 f4 f5
              obtain ⟨w3, hw3⟩ : ∃ x, x = ((((((w2.setCell ⟨N, 0, none⟩ (.int .i64 (up X.s))).setCell ⟨N, 1, none⟩ (.bool X.k)).setCell ⟨N, 2, none⟩ (.int .i64 X.n)).setCell ⟨N, 3, none⟩ (.int .i64 X.lo)).setCell ⟨N, 4, none⟩ (.int .i64 X.hi)).setCell ⟨N, 5, none⟩ (.int .i64 (up X.p))) := ⟨_, rfl⟩
              unfold st6 at hH3 P3 Q3 FP3 FQ3
              rw [← hw3] at hH3 P3 Q3 FP3 FQ3 ⊢
              clear hw3 P2 Q2 FP2 FQ2 hH2
              refine wpAnyH_ready (rs := [5]) (by kernel_rfl) (by simp) ?_
              refine AllReadyH.cons (o := ({ dst := none, op := Op.store 27 (Operand.tmp 5) (Operand.tmp 15), type := 0, pos := "law.go:43", after := #[{ on := 3, ground := Ground.data }, { on := 4, ground := Ground.chain }, { on := 0, ground := Ground.phase }, { on := 1, ground := Ground.phase }, { on := 2, ground := Ground.phase }, { on := 3, ground := Ground.phase }, { on := 4, ground := Ground.phase }], guard := none } : Oper)) rfl (fun K hK => ?_) AllReadyH.nil
              · have c0 := Q3.c0
                have c1 := Q3.c1
                have c2 := Q3.c2
                have c3 := Q3.c3
                have c4 := Q3.c4
                have c5 := Q3.c5
                have f0 := FQ3.f0
                have f1 := FQ3.f1
                have f2 := FQ3.f2
                have f3 := FQ3.f3
                have f4 := FQ3.f4
                have f5 := FQ3.f5
                go_simp
                have Q4 := Q3.wrote (up Y.s) Y.k Y.n Y.lo Y.hi (up Y.p)
                have P4 := P3.put (q := (N + 1)) (by omega) (.int .i64 (up Y.s)) (.bool Y.k) (.int .i64 Y.n) (.int .i64 Y.lo) (.int .i64 Y.hi) (.int .i64 (up Y.p))
                have FP4 := FP3.put (q := (N + 1)) (.int .i64 (up Y.s)) (.bool Y.k) (.int .i64 Y.n) (.int .i64 Y.lo) (.int .i64 Y.hi) (.int .i64 (up Y.p))
                have FQ4 := FQ3.put (q := (N + 1)) (.int .i64 (up Y.s)) (.bool Y.k) (.int .i64 Y.n) (.int .i64 Y.lo) (.int .i64 Y.hi) (.int .i64 (up Y.p))
                refine hK.out _ _ (HPUT.out _ (N + 1) _ _ _ _ _ _ (by omega) hH3) (fun hH4 => ?_)
                clear hK K c0 c1 c2 c3 c4 c5 f0 f1 f2 f3 f4 f5
                obtain ⟨w4, hw4⟩ : ∃ x, x = ((((((w3.setCell ⟨N + 1, 0, none⟩ (.int .i64 (up Y.s))).setCell ⟨N + 1, 1, none⟩ (.bool Y.k)).setCell ⟨N + 1, 2, none⟩ (.int .i64 Y.n)).setCell ⟨N + 1, 3, none⟩ (.int .i64 Y.lo)).setCell ⟨N + 1, 4, none⟩ (.int .i64 Y.hi)).setCell ⟨N + 1, 5, none⟩ (.int .i64 (up Y.p))) := ⟨_, rfl⟩
                unfold st6 at hH4 P4 Q4 FP4 FQ4
                rw [← hw4] at hH4 P4 Q4 FP4 FQ4 ⊢
                clear hw4 P3 Q3 FP3 FQ3 hH3
                refine wpAnyH_done (by kernel_rfl) ?_ _
                go_wp2
                go_meet
                case rel => exact ⟨rfl, P4, Q4, hH4.2.out⟩
    · have c0 := P0.c0
      have c1 := P0.c1
      have c2 := P0.c2
      have c3 := P0.c3
      have c4 := P0.c4
      have c5 := P0.c5
      have d0 := Q0.c0
      have d1 := Q0.c1
      have d2 := Q0.c2
      have d3 := Q0.c3
      have d4 := Q0.c4
      have d5 := Q0.c5
      go_simp
      refine hK.out _ _ hH0 (fun _ => ?_)
      clear hK K c0 c1 c2 c3 c4 c5 d0 d1 d2 d3 d4 d5
      refine wpAnyH_ready (rs := [0]) (by kernel_rfl) (by simp) ?_
      refine AllReadyH.cons (o := ({ dst := some 12, op := Op.load 27 (Operand.tmp 4), type := 27, pos := "law.go:43", after := #[], guard := none } : Oper)) rfl (fun K hK => ?_) AllReadyH.nil
      · have c0 := P0.c0
        have c1 := P0.c1
        have c2 := P0.c2
        have c3 := P0.c3
        have c4 := P0.c4
        have c5 := P0.c5
        have d0 := Q0.c0
        have d1 := Q0.c1
        have d2 := Q0.c2
        have d3 := Q0.c3
        have d4 := Q0.c4
        have d5 := Q0.c5
        go_simp
        refine hK.out _ _ hH0 (fun _ => ?_)
        clear hK K c0 c1 c2 c3 c4 c5 d0 d1 d2 d3 d4 d5
        refine wpAnyH_ready (rs := [1]) (by kernel_rfl) (by simp) ?_
        refine AllReadyH.cons (o := ({ dst := some 13, op := Op.call { callee := Callee.value (Operand.func 4), args := #[Operand.tmp 12], argTypes := #[27] }, type := 27, pos := "law.go:43", after := #[{ on := 0, ground := Ground.data }], guard := none } : Oper)) rfl (fun K hK => ?_) AllReadyH.nil
        · go_simp
          go_at_call 4
          refine (cA _).mono ?_
          rintro e w1 ⟨rfl, hb⟩
          have P1 := P0.keep hb
          have Q1 := Q0.keep hb
          have FP1 := FP0.keep P0.lt hb
          have FQ1 := FQ0.keep Q0.lt hb
          refine hK.out _ _ (HCL.out _ _ hH0 hb) (fun hH1 => ?_)
          clear hK K hb P0 Q0 FP0 FQ0 hH0
          refine wpAnyH_ready (rs := [3]) (by kernel_rfl) (by simp) ?_
          refine AllReadyH.cons (o := ({ dst := some 15, op := Op.call { callee := Callee.value (Operand.func 4), args := #[Operand.tmp 14], argTypes := #[27] }, type := 27, pos := "law.go:43", after := #[{ on := 2, ground := Ground.data }, { on := 1, ground := Ground.chain }], guard := none } : Oper)) rfl (fun K hK => ?_) AllReadyH.nil
          · go_simp
            go_at_call 4
            refine (cB _).mono ?_
            rintro e w2 ⟨rfl, hb⟩
            have P2 := P1.keep hb
            have Q2 := Q1.keep hb
            have FP2 := FP1.keep P1.lt hb
            have FQ2 := FQ1.keep Q1.lt hb
            refine hK.out _ _ (HCL.out _ _ hH1 hb) (fun hH2 => ?_)
            clear hK K hb P1 Q1 FP1 FQ1 hH1
            refine wpAnyH_ready (rs := [4]) (by kernel_rfl) (by simp) ?_
            refine AllReadyH.cons (o := ({ dst := none, op := Op.store 27 (Operand.tmp 4) (Operand.tmp 13), type := 0, pos := "law.go:43", after := #[{ on := 1, ground := Ground.data }, { on := 3, ground := Ground.chain }, { on := 0, ground := Ground.phase }, { on := 1, ground := Ground.phase }, { on := 2, ground := Ground.textOnly Departure.lateStores }, { on := 3, ground := Ground.textOnly Departure.lateStoresUnsure }], guard := none } : Oper)) rfl (fun K hK => ?_) AllReadyH.nil
            · have c0 := P2.c0
              have c1 := P2.c1
              have c2 := P2.c2
              have c3 := P2.c3
              have c4 := P2.c4
              have c5 := P2.c5
              have f0 := FP2.f0
              have f1 := FP2.f1
              have f2 := FP2.f2
              have f3 := FP2.f3
              have f4 := FP2.f4
              have f5 := FP2.f5
              go_simp
              have P3 := P2.wrote (up X.s) X.k X.n X.lo X.hi (up X.p)
              have Q3 := Q2.put (q := N) (by omega) (.int .i64 (up X.s)) (.bool X.k) (.int .i64 X.n) (.int .i64 X.lo) (.int .i64 X.hi) (.int .i64 (up X.p))
              have FP3 := FP2.put (q := N) (.int .i64 (up X.s)) (.bool X.k) (.int .i64 X.n) (.int .i64 X.lo) (.int .i64 X.hi) (.int .i64 (up X.p))
              have FQ3 := FQ2.put (q := N) (.int .i64 (up X.s)) (.bool X.k) (.int .i64 X.n) (.int .i64 X.lo) (.int .i64 X.hi) (.int .i64 (up X.p))
              refine hK.out _ _ (HPUT.out _ N _ _ _ _ _ _ (by omega) hH2) (fun hH3 => ?_)
              clear hK K c0 c1 c2 c3 c4 c5 f0 f1 f2 f3 f4 f5
              obtain ⟨w3, hw3⟩ : ∃ x, x = ((((((w2.setCell ⟨N, 0, none⟩ (.int .i64 (up X.s))).setCell ⟨N, 1, none⟩ (.bool X.k)).setCell ⟨N, 2, none⟩ (.int .i64 X.n)).setCell ⟨N, 3, none⟩ (.int .i64 X.lo)).setCell ⟨N, 4, none⟩ (.int .i64 X.hi)).setCell ⟨N, 5, none⟩ (.int .i64 (up X.p))) := ⟨_, rfl⟩
              unfold st6 at hH3 P3 Q3 FP3 FQ3
              rw [← hw3] at hH3 P3 Q3 FP3 FQ3 ⊢
              clear hw3 P2 Q2 FP2 FQ2 hH2
              refine wpAnyH_ready (rs := [5]) (by kernel_rfl) (by simp) ?_
              refine AllReadyH.cons (o := ({ dst := none, op := Op.store 27 (Operand.tmp 5) (Operand.tmp 15), type := 0, pos := "law.go:43", after := #[{ on := 3, ground := Ground.data }, { on := 4, ground := Ground.chain }, { on := 0, ground := Ground.phase }, { on := 1, ground := Ground.phase }, { on := 2, ground := Ground.phase }, { on := 3, ground := Ground.phase }, { on := 4, ground := Ground.phase }], guard := none } : Oper)) rfl (fun K hK => ?_) AllReadyH.nil
              · have c0 := Q3.c0
                have c1 := Q3.c1
                have c2 := Q3.c2
                have c3 := Q3.c3
                have c4 := Q3.c4
                have c5 := Q3.c5
                have f0 := FQ3.f0
                have f1 := FQ3.f1
                have f2 := FQ3.f2
                have f3 := FQ3.f3
                have f4 := FQ3.f4
                have f5 := FQ3.f5
                go_simp
                have Q4 := Q3.wrote (up Y.s) Y.k Y.n Y.lo Y.hi (up Y.p)
                have P4 := P3.put (q := (N + 1)) (by omega) (.int .i64 (up Y.s)) (.bool Y.k) (.int .i64 Y.n) (.int .i64 Y.lo) (.int .i64 Y.hi) (.int .i64 (up Y.p))
                have FP4 := FP3.put (q := (N + 1)) (.int .i64 (up Y.s)) (.bool Y.k) (.int .i64 Y.n) (.int .i64 Y.lo) (.int .i64 Y.hi) (.int .i64 (up Y.p))
                have FQ4 := FQ3.put (q := (N + 1)) (.int .i64 (up Y.s)) (.bool Y.k) (.int .i64 Y.n) (.int .i64 Y.lo) (.int .i64 Y.hi) (.int .i64 (up Y.p))
                refine hK.out _ _ (HPUT.out _ (N + 1) _ _ _ _ _ _ (by omega) hH3) (fun hH4 => ?_)
                clear hK K c0 c1 c2 c3 c4 c5 f0 f1 f2 f3 f4 f5
                obtain ⟨w4, hw4⟩ : ∃ x, x = ((((((w3.setCell ⟨N + 1, 0, none⟩ (.int .i64 (up Y.s))).setCell ⟨N + 1, 1, none⟩ (.bool Y.k)).setCell ⟨N + 1, 2, none⟩ (.int .i64 Y.n)).setCell ⟨N + 1, 3, none⟩ (.int .i64 Y.lo)).setCell ⟨N + 1, 4, none⟩ (.int .i64 Y.hi)).setCell ⟨N + 1, 5, none⟩ (.int .i64 (up Y.p))) := ⟨_, rfl⟩
                unfold st6 at hH4 P4 Q4 FP4 FQ4
                rw [← hw4] at hH4 P4 Q4 FP4 FQ4 ⊢
                clear hw4 P3 Q3 FP3 FQ3 hH3
                refine wpAnyH_done (by kernel_rfl) ?_ _
                go_wp2
                go_meet
                case rel => exact ⟨rfl, P4, Q4, hH4.2.out⟩
  case rest =>
    obtain ⟨rfl, HH⟩ := hcut
    clear R HCL HPUT cA cB
    have a0 := HH.out.1.c0
    have a1 := HH.out.1.c1
    have a2 := HH.out.1.c2
    have a3 := HH.out.1.c3
    have a4 := HH.out.1.c4
    have a5 := HH.out.1.c5
    go_upto_region 3 with (first | (go_at_call 6; refine (to_V _ _ _ _ _ _ _).mono ?_; rintro e wJ ⟨rfl, hJ⟩) | (go_at_call 5; refine (c1 _).mono ?_; rintro e wK ⟨rfl, hK⟩))
    go_name_world W3 hW
    have H3 : Hid ((Br W3 N (up X.s) X.k X.n X.lo X.hi (up X.p) ∧ Br W3 (N + 1) (up Y.s) Y.k Y.n Y.lo Y.hi (up Y.p) ∧ Br W3 wK.heap.size (up ox.s) ox.k ox.n ox.lo ox.hi (up ox.p) ∧ Rw W3 wK.heap.size ∧ Below N w W3) ∧ N + 1 < wK.heap.size) := by
      rw [← hW]
      have y8 : Br wJ N (up X.s) X.k X.n X.lo X.hi (up X.p) ∧ Br wJ (N + 1) (up Y.s) Y.k Y.n Y.lo Y.hi (up Y.p) ∧ Below N w wJ := ⟨HH.out.1.keep hJ, HH.out.2.1.keep hJ, HH.out.2.2.trans (hJ.mono (Nat.le_of_lt HH.out.1.lt))⟩
      have y9 : Br wK N (up X.s) X.k X.n X.lo X.hi (up X.p) ∧ Br wK (N + 1) (up Y.s) Y.k Y.n Y.lo Y.hi (up Y.p) ∧ Below N w wK := ⟨y8.1.keep hK, y8.2.1.keep hK, y8.2.2.trans (hK.mono (Nat.le_of_lt y8.1.lt))⟩
      have nb := Br.new wK (up ox.s) ox.k ox.n ox.lo ox.hi (up ox.p) 32
      have nf := Fz.new wK (up ox.s) ox.k ox.n ox.lo ox.hi (up ox.p) 32
      exact ⟨⟨y9.1.keep ((Below.refl _ _).alloc (Nat.le_refl _) _), y9.2.1.keep ((Below.refl _ _).alloc (Nat.le_refl _) _), nb, ⟨_, _, _, _, _, _, nb, nf⟩, y9.2.2.alloc (Nat.le_of_lt y9.1.lt) _⟩, y9.2.1.lt⟩
    clear hW hJ hK HH c1 a0 a1 a2 a3 a4 a5
    generalize wK.heap.size = k7 at *
    have n7 : N + 1 < k7 := H3.out.2
    have a0 := H3.out.1.1.c0
    have a1 := H3.out.1.1.c1
    have a2 := H3.out.1.1.c2
    have a3 := H3.out.1.1.c3
    have a4 := H3.out.1.1.c4
    have a5 := H3.out.1.1.c5
    go_upto_region 4 with (go_at_call 7; refine (c2 _).mono ?_; rintro e wK ⟨rfl, hK⟩)
    go_name_world W4 hW
    have H4 : Hid ((Br W4 N (up X.s) X.k X.n X.lo X.hi (up X.p) ∧ Br W4 (N + 1) (up Y.s) Y.k Y.n Y.lo Y.hi (up Y.p) ∧ Br W4 k7 (up ox.s) ox.k ox.n ox.lo ox.hi (up ox.p) ∧ Rw W4 k7 ∧ Br W4 wK.heap.size (up ox.s) ox.k ox.n ox.lo ox.hi (up ox.p) ∧ Rw W4 wK.heap.size ∧ Below N w W4) ∧ k7 < wK.heap.size) := by
      rw [← hW]
      have y9 : Br wK N (up X.s) X.k X.n X.lo X.hi (up X.p) ∧ Br wK (N + 1) (up Y.s) Y.k Y.n Y.lo Y.hi (up Y.p) ∧ Br wK k7 (up ox.s) ox.k ox.n ox.lo ox.hi (up ox.p) ∧ Rw wK k7 ∧ Below N w wK := ⟨H3.out.1.1.keep hK, H3.out.1.2.1.keep hK, H3.out.1.2.2.1.keep hK, H3.out.1.2.2.2.1.keep hK, H3.out.1.2.2.2.2.trans (hK.mono (Nat.le_of_lt H3.out.1.1.lt))⟩
      have nb := Br.new wK (up ox.s) ox.k ox.n ox.lo ox.hi (up ox.p) 27
      have nf := Fz.new wK (up ox.s) ox.k ox.n ox.lo ox.hi (up ox.p) 27
      exact ⟨⟨y9.1.keep ((Below.refl _ _).alloc (Nat.le_refl _) _), y9.2.1.keep ((Below.refl _ _).alloc (Nat.le_refl _) _), y9.2.2.1.keep ((Below.refl _ _).alloc (Nat.le_refl _) _), y9.2.2.2.1.keep ((Below.refl _ _).alloc (Nat.le_refl _) _), nb, ⟨_, _, _, _, _, _, nb, nf⟩, y9.2.2.2.2.alloc (Nat.le_of_lt y9.1.lt) _⟩, y9.2.2.1.lt⟩
    clear hW hK H3 c2 a0 a1 a2 a3 a4 a5
    generalize wK.heap.size = k9 at *
    have n9 : k7 < k9 := H4.out.2
    have HCL : Hid (∀ a b : World, (a.cell? ⟨k7, 0, none⟩ = some (.int .i64 (up ox.s)) ∧ a.cell? ⟨k7, 1, none⟩ = some (.bool ox.k) ∧ a.cell? ⟨k7, 2, none⟩ = some (.int .i64 ox.n) ∧ a.cell? ⟨k7, 3, none⟩ = some (.int .i64 ox.lo) ∧ a.cell? ⟨k7, 4, none⟩ = some (.int .i64 ox.hi) ∧ a.cell? ⟨k7, 5, none⟩ = some (.int .i64 (up ox.p)) ∧ a.cell? ⟨k9, 0, none⟩ = some (.int .i64 (up ox.s)) ∧ a.cell? ⟨k9, 1, none⟩ = some (.bool ox.k) ∧ a.cell? ⟨k9, 2, none⟩ = some (.int .i64 ox.n) ∧ a.cell? ⟨k9, 3, none⟩ = some (.int .i64 ox.lo) ∧ a.cell? ⟨k9, 4, none⟩ = some (.int .i64 ox.hi) ∧ a.cell? ⟨k9, 5, none⟩ = some (.int .i64 (up ox.p)) ∧ Hid (Br a N (up X.s) X.k X.n X.lo X.hi (up X.p) ∧ Br a (N + 1) (up Y.s) Y.k Y.n Y.lo Y.hi (up Y.p) ∧ Br a k7 (up ox.s) ox.k ox.n ox.lo ox.hi (up ox.p) ∧ Rw a k7 ∧ Br a k9 (up ox.s) ox.k ox.n ox.lo ox.hi (up ox.p) ∧ Rw a k9 ∧ Below N w a)) → Below a.heap.size a b → (b.cell? ⟨k7, 0, none⟩ = some (.int .i64 (up ox.s)) ∧ b.cell? ⟨k7, 1, none⟩ = some (.bool ox.k) ∧ b.cell? ⟨k7, 2, none⟩ = some (.int .i64 ox.n) ∧ b.cell? ⟨k7, 3, none⟩ = some (.int .i64 ox.lo) ∧ b.cell? ⟨k7, 4, none⟩ = some (.int .i64 ox.hi) ∧ b.cell? ⟨k7, 5, none⟩ = some (.int .i64 (up ox.p)) ∧ b.cell? ⟨k9, 0, none⟩ = some (.int .i64 (up ox.s)) ∧ b.cell? ⟨k9, 1, none⟩ = some (.bool ox.k) ∧ b.cell? ⟨k9, 2, none⟩ = some (.int .i64 ox.n) ∧ b.cell? ⟨k9, 3, none⟩ = some (.int .i64 ox.lo) ∧ b.cell? ⟨k9, 4, none⟩ = some (.int .i64 ox.hi) ∧ b.cell? ⟨k9, 5, none⟩ = some (.int .i64 (up ox.p)) ∧ Hid (Br b N (up X.s) X.k X.n X.lo X.hi (up X.p) ∧ Br b (N + 1) (up Y.s) Y.k Y.n Y.lo Y.hi (up Y.p) ∧ Br b k7 (up ox.s) ox.k ox.n ox.lo ox.hi (up ox.p) ∧ Rw b k7 ∧ Br b k9 (up ox.s) ox.k ox.n ox.lo ox.hi (up ox.p) ∧ Rw b k9 ∧ Below N w b))) := fun a b h hb => by
      have y9 := (h.2.2.2.2.2.2.2.2.2.2.2.2).out
      have z9 : Br b N (up X.s) X.k X.n X.lo X.hi (up X.p) ∧ Br b (N + 1) (up Y.s) Y.k Y.n Y.lo Y.hi (up Y.p) ∧ Br b k7 (up ox.s) ox.k ox.n ox.lo ox.hi (up ox.p) ∧ Rw b k7 ∧ Br b k9 (up ox.s) ox.k ox.n ox.lo ox.hi (up ox.p) ∧ Rw b k9 ∧ Below N w b := ⟨y9.1.keep hb, y9.2.1.keep hb, y9.2.2.1.keep hb, y9.2.2.2.1.keep hb, y9.2.2.2.2.1.keep hb, y9.2.2.2.2.2.1.keep hb, y9.2.2.2.2.2.2.trans (hb.mono (Nat.le_of_lt y9.1.lt))⟩
      exact ⟨z9.2.2.1.c0, z9.2.2.1.c1, z9.2.2.1.c2, z9.2.2.1.c3, z9.2.2.1.c4, z9.2.2.1.c5, z9.2.2.2.2.1.c0, z9.2.2.2.2.1.c1, z9.2.2.2.2.1.c2, z9.2.2.2.2.1.c3, z9.2.2.2.2.1.c4, z9.2.2.2.2.1.c5, z9⟩
    have hS0 : W4.cell? ⟨k7, 0, none⟩ = some (.int .i64 (up ox.s)) ∧ W4.cell? ⟨k7, 1, none⟩ = some (.bool ox.k) ∧ W4.cell? ⟨k7, 2, none⟩ = some (.int .i64 ox.n) ∧ W4.cell? ⟨k7, 3, none⟩ = some (.int .i64 ox.lo) ∧ W4.cell? ⟨k7, 4, none⟩ = some (.int .i64 ox.hi) ∧ W4.cell? ⟨k7, 5, none⟩ = some (.int .i64 (up ox.p)) ∧ W4.cell? ⟨k9, 0, none⟩ = some (.int .i64 (up ox.s)) ∧ W4.cell? ⟨k9, 1, none⟩ = some (.bool ox.k) ∧ W4.cell? ⟨k9, 2, none⟩ = some (.int .i64 ox.n) ∧ W4.cell? ⟨k9, 3, none⟩ = some (.int .i64 ox.lo) ∧ W4.cell? ⟨k9, 4, none⟩ = some (.int .i64 ox.hi) ∧ W4.cell? ⟨k9, 5, none⟩ = some (.int .i64 (up ox.p)) ∧ Hid (Br W4 N (up X.s) X.k X.n X.lo X.hi (up X.p) ∧ Br W4 (N + 1) (up Y.s) Y.k Y.n Y.lo Y.hi (up Y.p) ∧ Br W4 k7 (up ox.s) ox.k ox.n ox.lo ox.hi (up ox.p) ∧ Rw W4 k7 ∧ Br W4 k9 (up ox.s) ox.k ox.n ox.lo ox.hi (up ox.p) ∧ Rw W4 k9 ∧ Below N w W4) := ⟨H4.out.1.2.2.1.c0, H4.out.1.2.2.1.c1, H4.out.1.2.2.1.c2, H4.out.1.2.2.1.c3, H4.out.1.2.2.1.c4, H4.out.1.2.2.1.c5, H4.out.1.2.2.2.2.1.c0, H4.out.1.2.2.2.2.1.c1, H4.out.1.2.2.2.2.1.c2, H4.out.1.2.2.2.2.1.c3, H4.out.1.2.2.2.2.1.c4, H4.out.1.2.2.2.2.1.c5, H4.out.1⟩
    clear H4
    refine wp_region_held_drew (S := fun w' => w'.cell? ⟨k7, 0, none⟩ = some (.int .i64 (up ox.s)) ∧ w'.cell? ⟨k7, 1, none⟩ = some (.bool ox.k) ∧ w'.cell? ⟨k7, 2, none⟩ = some (.int .i64 ox.n) ∧ w'.cell? ⟨k7, 3, none⟩ = some (.int .i64 ox.lo) ∧ w'.cell? ⟨k7, 4, none⟩ = some (.int .i64 ox.hi) ∧ w'.cell? ⟨k7, 5, none⟩ = some (.int .i64 (up ox.p)) ∧ w'.cell? ⟨k9, 0, none⟩ = some (.int .i64 (up ox.s)) ∧ w'.cell? ⟨k9, 1, none⟩ = some (.bool ox.k) ∧ w'.cell? ⟨k9, 2, none⟩ = some (.int .i64 ox.n) ∧ w'.cell? ⟨k9, 3, none⟩ = some (.int .i64 ox.lo) ∧ w'.cell? ⟨k9, 4, none⟩ = some (.int .i64 ox.hi) ∧ w'.cell? ⟨k9, 5, none⟩ = some (.int .i64 (up ox.p)) ∧ Hid (Br w' N (up X.s) X.k X.n X.lo X.hi (up X.p) ∧ Br w' (N + 1) (up Y.s) Y.k Y.n Y.lo Y.hi (up Y.p) ∧ Br w' k7 (up ox.s) ox.k ox.n ox.lo ox.hi (up ox.p) ∧ Rw w' k7 ∧ Br w' k9 (up ox.s) ox.k ox.n ox.lo ox.hi (up ox.p) ∧ Rw w' k9 ∧ Below N w w')) (by kernel_rfl) (HCL.out _ _ hS0 ((Below.refl _ _).drew)) (fun hHeld => ?_)
    refine wpAnyH_ready (rs := [0]) (by kernel_rfl) (by simp) ?_
    refine AllReadyH.cons (o := ({ dst := some 29, op := Op.call { callee := Callee.value (Operand.func 8), args := #[], argTypes := #[] }, type := 4, pos := "law.go:46", after := #[], guard := none } : Oper)) rfl (fun K hK => ?_) AllReadyH.nil
    go_simp
    go_at_call 8
    refine (lift (told_any _) (by assumption) HCL.out).mono ?_
    rintro e v1 ⟨rfl, g1⟩
    clear hHeld
    refine hK.out _ _ g1 (fun hHeld => ?_)
    clear hK K
    refine wpAnyH_take (i := 1) (oi := ({ dst := some 30, op := Op.unOp UnOp.not 4 (Operand.tmp 29), type := 4, pos := "law.go:46", after := #[{ on := 0, ground := Ground.data }], guard := none } : Oper)) (v := ?_) rfl (by kernel_rfl) (by kernel_rfl) (by kernel_rfl) (fun _ _ _ h => h) (Or.inl ⟨by rfl, ?_⟩) (by assumption) ?_
    rotate_left
    · (intro wz hSw; (try dsimp only at hSw); go_simp; try with_reducible rfl)
    simp only [Act.put, List.setIfInBounds_toArray, List.set_cons_zero, List.set_cons_succ]
    refine wpAnyH_take (i := 2) (oi := ({ dst := some 31, op := Op.move (Operand.tmp 30), type := 4, pos := "law.go:46", after := #[{ on := 1, ground := Ground.data }, { on := 0, ground := Ground.chain }], guard := none } : Oper)) (v := ?_) rfl (by kernel_rfl) (by kernel_rfl) (by kernel_rfl) (fun _ _ _ h => h) (Or.inl ⟨by rfl, ?_⟩) (by assumption) ?_
    rotate_left
    · (intro wz hSw; (try dsimp only at hSw); go_simp; try with_reducible rfl)
    simp only [Act.put, List.setIfInBounds_toArray, List.set_cons_zero, List.set_cons_succ]
    refine wpAnyH_take (i := 3) (oi := ({ dst := some 32, op := Op.load 32 (Operand.tmp 7), type := 32, pos := "law.go:46", after := #[{ on := 2, ground := Ground.guard }], guard := some (2, false) } : Oper)) (v := ?_) rfl (by kernel_rfl) (by kernel_rfl) (by kernel_rfl) (fun _ _ _ h => h) (Or.inl ⟨by rfl, ?_⟩) (by assumption) ?_
    rotate_left
    · (intro wz hSw; (try dsimp only at hSw); go_simp; try with_reducible rfl)
    simp only [Act.put, List.setIfInBounds_toArray, List.set_cons_zero, List.set_cons_succ]
    refine wpAnyH_take (i := 5) (oi := ({ dst := some 34, op := Op.load 27 (Operand.tmp 9), type := 27, pos := "law.go:46", after := #[{ on := 2, ground := Ground.guard }], guard := some (2, false) } : Oper)) (v := ?_) rfl (by kernel_rfl) (by kernel_rfl) (by kernel_rfl) (fun _ _ _ h => h) (Or.inl ⟨by rfl, ?_⟩) (by assumption) ?_
    rotate_left
    · (intro wz hSw; (try dsimp only at hSw); go_simp; try with_reducible rfl)
    simp only [Act.put, List.setIfInBounds_toArray, List.set_cons_zero, List.set_cons_succ]
    refine wpAnyH_ready (rs := [4]) (by kernel_rfl) (by simp) ?_
    refine AllReadyH.cons (o := ({ dst := some 33, op := Op.call { callee := Callee.value (Operand.func 9), args := #[Operand.tmp 32], argTypes := #[32] }, type := 27, pos := "law.go:46", after := #[{ on := 3, ground := Ground.data }, { on := 2, ground := Ground.chain }, { on := 2, ground := Ground.guard }], guard := some (2, false) } : Oper)) rfl (fun K hK => ?_) AllReadyH.nil
    go_simp
    go_at_call 9
    refine (lift (from_V _ _ _ _ _ _ _) (by assumption) HCL.out).mono ?_
    rintro e v2 ⟨rfl, g2⟩
    clear hHeld g1
    refine hK.out _ _ g2 (fun hHeld => ?_)
    clear hK K
    refine wpAnyH_take (i := 6) (oi := ({ dst := some 35, op := Op.binOp BinOp.neq 27 (Operand.tmp 33) (Operand.tmp 34) 27, type := 4, pos := "law.go:46", after := #[{ on := 4, ground := Ground.data }, { on := 5, ground := Ground.data }, { on := 2, ground := Ground.guard }], guard := some (2, false) } : Oper)) (v := ?_) rfl (by kernel_rfl) (by kernel_rfl) (by kernel_rfl) (fun _ _ _ h => h) (Or.inl ⟨by rfl, ?_⟩) (by assumption) ?_
    rotate_left
    · (intro wz hSw; (try dsimp only at hSw); go_simp; try with_reducible rfl)
    simp only [Act.put, List.setIfInBounds_toArray, List.set_cons_zero, List.set_cons_succ]
    refine wpAnyH_take (i := 7) (oi := ({ dst := some 36, op := Op.pick (Operand.tmp 31) (Operand.const (Value.bool true)) (Operand.tmp 35), type := 4, pos := "law.go:46", after := #[{ on := 2, ground := Ground.data }, { on := 6, ground := Ground.data }], guard := none } : Oper)) (v := ?_) rfl (by kernel_rfl) (by kernel_rfl) (by kernel_rfl) (fun _ _ _ h => h) (Or.inl ⟨by rfl, ?_⟩) (by assumption) ?_
    rotate_left
    · (intro wz hSw; (try dsimp only at hSw); go_simp; try with_reducible rfl)
    simp only [Act.put, List.setIfInBounds_toArray, List.set_cons_zero, List.set_cons_succ]
    refine wpAnyH_take (i := 8) (oi := ({ dst := some 37, op := Op.move (Operand.tmp 36), type := 4, pos := "law.go:46", after := #[{ on := 7, ground := Ground.data }, { on := 4, ground := Ground.chain }], guard := none } : Oper)) (v := ?_) rfl (by kernel_rfl) (by kernel_rfl) (by kernel_rfl) (fun _ _ _ h => h) (Or.inl ⟨by rfl, ?_⟩) (by assumption) ?_
    rotate_left
    · (intro wz hSw; (try dsimp only at hSw); go_simp; try with_reducible rfl)
    simp only [Act.put, List.setIfInBounds_toArray, List.set_cons_zero, List.set_cons_succ]
    refine wpAnyH_take (i := 9) (oi := ({ dst := some 38, op := Op.move (Operand.tmp 8), type := 4, pos := "law.go:46", after := #[{ on := 8, ground := Ground.guard }], guard := some (8, false) } : Oper)) (v := ?_) rfl (by kernel_rfl) (by kernel_rfl) (by kernel_rfl) (fun _ _ _ h => h) (Or.inl ⟨by rfl, ?_⟩) (by assumption) ?_
    rotate_left
    · (intro wz hSw; (try dsimp only at hSw); go_simp; try with_reducible rfl)
    simp only [Act.put, List.setIfInBounds_toArray, List.set_cons_zero, List.set_cons_succ]
    refine wpAnyH_take (i := 10) (oi := ({ dst := some 39, op := Op.move (Operand.tmp 10), type := 4, pos := "law.go:46", after := #[{ on := 8, ground := Ground.guard }], guard := some (8, false) } : Oper)) (v := ?_) rfl (by kernel_rfl) (by kernel_rfl) (by kernel_rfl) (fun _ _ _ h => h) (Or.inl ⟨by rfl, ?_⟩) (by assumption) ?_
    rotate_left
    · (intro wz hSw; (try dsimp only at hSw); go_simp; try with_reducible rfl)
    simp only [Act.put, List.setIfInBounds_toArray, List.set_cons_zero, List.set_cons_succ]
    refine wpAnyH_take (i := 11) (oi := ({ dst := some 40, op := Op.binOp BinOp.neq 4 (Operand.tmp 38) (Operand.tmp 39) 4, type := 4, pos := "law.go:46", after := #[{ on := 9, ground := Ground.data }, { on := 10, ground := Ground.data }, { on := 8, ground := Ground.guard }], guard := some (8, false) } : Oper)) (v := ?_) rfl (by kernel_rfl) (by kernel_rfl) (by kernel_rfl) (fun _ _ _ h => h) (Or.inl ⟨by rfl, ?_⟩) (by assumption) ?_
    rotate_left
    · (intro wz hSw; (try dsimp only at hSw); go_simp; try with_reducible rfl)
    simp only [Act.put, List.setIfInBounds_toArray, List.set_cons_zero, List.set_cons_succ]
    refine wpAnyH_take (i := 12) (oi := ({ dst := some 41, op := Op.pick (Operand.tmp 37) (Operand.const (Value.bool true)) (Operand.tmp 40), type := 4, pos := "law.go:46", after := #[{ on := 8, ground := Ground.data }, { on := 11, ground := Ground.data }], guard := none } : Oper)) (v := ?_) rfl (by kernel_rfl) (by kernel_rfl) (by kernel_rfl) (fun _ _ _ h => h) (Or.inl ⟨by rfl, ?_⟩) (by assumption) ?_
    rotate_left
    · (intro wz hSw; (try dsimp only at hSw); go_simp; try with_reducible rfl)
    simp only [Act.put, List.setIfInBounds_toArray, List.set_cons_zero, List.set_cons_succ]
    refine wpAnyH_done (by kernel_rfl) ?_ _
    have H5 : Hid (Br v2 N (up X.s) X.k X.n X.lo X.hi (up X.p) ∧ Br v2 (N + 1) (up Y.s) Y.k Y.n Y.lo Y.hi (up Y.p) ∧ Br v2 k7 (up ox.s) ox.k ox.n ox.lo ox.hi (up ox.p) ∧ Rw v2 k7 ∧ Br v2 k9 (up ox.s) ox.k ox.n ox.lo ox.hi (up ox.p) ∧ Rw v2 k9 ∧ Below N w v2) := hide (g2.2.2.2.2.2.2.2.2.2.2.2.2).out
    clear hS0 HCL hHeld g2
    go_upto_region 6 with fail
    have H6 : Hid (Br v2 N (up X.s) X.k X.n X.lo X.hi (up X.p) ∧ Br v2 (N + 1) (up Y.s) Y.k Y.n Y.lo Y.hi (up Y.p) ∧ Rw v2 k7 ∧ Rw v2 k9 ∧ Below N w v2) := ⟨H5.out.1, H5.out.2.1, H5.out.2.2.2.1, H5.out.2.2.2.2.2.1, H5.out.2.2.2.2.2.2⟩
    clear H5
    have cU := fun (w1 : World) (hb : Below N w w1) => cT w1 (globS_at HN.out HG.out.1 hb) (globP_at HN.out HG.out.2 hb)
    clear cT
    have HCL : Hid (∀ a b : World, (a.cell? ⟨N, 0, none⟩ = some (.int .i64 (up X.s)) ∧ a.cell? ⟨N, 1, none⟩ = some (.bool X.k) ∧ a.cell? ⟨N, 2, none⟩ = some (.int .i64 X.n) ∧ a.cell? ⟨N, 3, none⟩ = some (.int .i64 X.lo) ∧ a.cell? ⟨N, 4, none⟩ = some (.int .i64 X.hi) ∧ a.cell? ⟨N, 5, none⟩ = some (.int .i64 (up X.p)) ∧ a.cell? ⟨(N + 1), 0, none⟩ = some (.int .i64 (up Y.s)) ∧ a.cell? ⟨(N + 1), 1, none⟩ = some (.bool Y.k) ∧ a.cell? ⟨(N + 1), 2, none⟩ = some (.int .i64 Y.n) ∧ a.cell? ⟨(N + 1), 3, none⟩ = some (.int .i64 Y.lo) ∧ a.cell? ⟨(N + 1), 4, none⟩ = some (.int .i64 Y.hi) ∧ a.cell? ⟨(N + 1), 5, none⟩ = some (.int .i64 (up Y.p)) ∧ Hid (Br a N (up X.s) X.k X.n X.lo X.hi (up X.p) ∧ Br a (N + 1) (up Y.s) Y.k Y.n Y.lo Y.hi (up Y.p) ∧ Rw a k7 ∧ Rw a k9 ∧ Below N w a)) → Below a.heap.size a b → (b.cell? ⟨N, 0, none⟩ = some (.int .i64 (up X.s)) ∧ b.cell? ⟨N, 1, none⟩ = some (.bool X.k) ∧ b.cell? ⟨N, 2, none⟩ = some (.int .i64 X.n) ∧ b.cell? ⟨N, 3, none⟩ = some (.int .i64 X.lo) ∧ b.cell? ⟨N, 4, none⟩ = some (.int .i64 X.hi) ∧ b.cell? ⟨N, 5, none⟩ = some (.int .i64 (up X.p)) ∧ b.cell? ⟨(N + 1), 0, none⟩ = some (.int .i64 (up Y.s)) ∧ b.cell? ⟨(N + 1), 1, none⟩ = some (.bool Y.k) ∧ b.cell? ⟨(N + 1), 2, none⟩ = some (.int .i64 Y.n) ∧ b.cell? ⟨(N + 1), 3, none⟩ = some (.int .i64 Y.lo) ∧ b.cell? ⟨(N + 1), 4, none⟩ = some (.int .i64 Y.hi) ∧ b.cell? ⟨(N + 1), 5, none⟩ = some (.int .i64 (up Y.p)) ∧ Hid (Br b N (up X.s) X.k X.n X.lo X.hi (up X.p) ∧ Br b (N + 1) (up Y.s) Y.k Y.n Y.lo Y.hi (up Y.p) ∧ Rw b k7 ∧ Rw b k9 ∧ Below N w b))) := fun a b h hb => by
      have y9 := (h.2.2.2.2.2.2.2.2.2.2.2.2).out
      have z9 : Br b N (up X.s) X.k X.n X.lo X.hi (up X.p) ∧ Br b (N + 1) (up Y.s) Y.k Y.n Y.lo Y.hi (up Y.p) ∧ Rw b k7 ∧ Rw b k9 ∧ Below N w b := ⟨y9.1.keep hb, y9.2.1.keep hb, y9.2.2.1.keep hb, y9.2.2.2.1.keep hb, y9.2.2.2.2.trans (hb.mono (Nat.le_of_lt y9.1.lt))⟩
      exact ⟨z9.1.c0, z9.1.c1, z9.1.c2, z9.1.c3, z9.1.c4, z9.1.c5, z9.2.1.c0, z9.2.1.c1, z9.2.1.c2, z9.2.1.c3, z9.2.1.c4, z9.2.1.c5, z9⟩
    have hS0 : v2.cell? ⟨N, 0, none⟩ = some (.int .i64 (up X.s)) ∧ v2.cell? ⟨N, 1, none⟩ = some (.bool X.k) ∧ v2.cell? ⟨N, 2, none⟩ = some (.int .i64 X.n) ∧ v2.cell? ⟨N, 3, none⟩ = some (.int .i64 X.lo) ∧ v2.cell? ⟨N, 4, none⟩ = some (.int .i64 X.hi) ∧ v2.cell? ⟨N, 5, none⟩ = some (.int .i64 (up X.p)) ∧ v2.cell? ⟨(N + 1), 0, none⟩ = some (.int .i64 (up Y.s)) ∧ v2.cell? ⟨(N + 1), 1, none⟩ = some (.bool Y.k) ∧ v2.cell? ⟨(N + 1), 2, none⟩ = some (.int .i64 Y.n) ∧ v2.cell? ⟨(N + 1), 3, none⟩ = some (.int .i64 Y.lo) ∧ v2.cell? ⟨(N + 1), 4, none⟩ = some (.int .i64 Y.hi) ∧ v2.cell? ⟨(N + 1), 5, none⟩ = some (.int .i64 (up Y.p)) ∧ Hid (Br v2 N (up X.s) X.k X.n X.lo X.hi (up X.p) ∧ Br v2 (N + 1) (up Y.s) Y.k Y.n Y.lo Y.hi (up Y.p) ∧ Rw v2 k7 ∧ Rw v2 k9 ∧ Below N w v2) := ⟨H6.out.1.c0, H6.out.1.c1, H6.out.1.c2, H6.out.1.c3, H6.out.1.c4, H6.out.1.c5, H6.out.2.1.c0, H6.out.2.1.c1, H6.out.2.1.c2, H6.out.2.1.c3, H6.out.2.1.c4, H6.out.2.1.c5, H6.out⟩
    clear H6
    refine wp_region_held_drew (S := fun w' => w'.cell? ⟨N, 0, none⟩ = some (.int .i64 (up X.s)) ∧ w'.cell? ⟨N, 1, none⟩ = some (.bool X.k) ∧ w'.cell? ⟨N, 2, none⟩ = some (.int .i64 X.n) ∧ w'.cell? ⟨N, 3, none⟩ = some (.int .i64 X.lo) ∧ w'.cell? ⟨N, 4, none⟩ = some (.int .i64 X.hi) ∧ w'.cell? ⟨N, 5, none⟩ = some (.int .i64 (up X.p)) ∧ w'.cell? ⟨(N + 1), 0, none⟩ = some (.int .i64 (up Y.s)) ∧ w'.cell? ⟨(N + 1), 1, none⟩ = some (.bool Y.k) ∧ w'.cell? ⟨(N + 1), 2, none⟩ = some (.int .i64 Y.n) ∧ w'.cell? ⟨(N + 1), 3, none⟩ = some (.int .i64 Y.lo) ∧ w'.cell? ⟨(N + 1), 4, none⟩ = some (.int .i64 Y.hi) ∧ w'.cell? ⟨(N + 1), 5, none⟩ = some (.int .i64 (up Y.p)) ∧ Hid (Br w' N (up X.s) X.k X.n X.lo X.hi (up X.p) ∧ Br w' (N + 1) (up Y.s) Y.k Y.n Y.lo Y.hi (up Y.p) ∧ Rw w' k7 ∧ Rw w' k9 ∧ Below N w w')) (by kernel_rfl) (HCL.out _ _ hS0 ((Below.refl _ _).drew)) (fun hHeld => ?_)
    refine wpAnyH_take (i := 0) (oi := ({ dst := some 43, op := Op.move (Operand.tmp 0), type := 3, pos := "law.go:49", after := #[], guard := none } : Oper)) (v := ?_) rfl (by kernel_rfl) (by kernel_rfl) (by kernel_rfl) (fun _ _ _ h => h) (Or.inl ⟨by rfl, ?_⟩) (by assumption) ?_
    rotate_left
    · (intro wz hSw; (try dsimp only at hSw); go_simp; try with_reducible rfl)
    simp only [Act.put, List.setIfInBounds_toArray, List.set_cons_zero, List.set_cons_succ]
    refine wpAnyH_take (i := 1) (oi := ({ dst := some 44, op := Op.load 27 (Operand.tmp 4), type := 27, pos := "law.go:49", after := #[], guard := none } : Oper)) (v := ?_) rfl (by kernel_rfl) (by kernel_rfl) (by kernel_rfl) (fun _ _ _ h => h) (Or.inl ⟨by rfl, ?_⟩) (by assumption) ?_
    rotate_left
    · (intro wz hSw; (try dsimp only at hSw); go_simp; try with_reducible rfl)
    simp only [Act.put, List.setIfInBounds_toArray, List.set_cons_zero, List.set_cons_succ]
    refine wpAnyH_take (i := 3) (oi := ({ dst := some 46, op := Op.load 27 (Operand.tmp 5), type := 27, pos := "law.go:49", after := #[], guard := none } : Oper)) (v := ?_) rfl (by kernel_rfl) (by kernel_rfl) (by kernel_rfl) (fun _ _ _ h => h) (Or.inl ⟨by rfl, ?_⟩) (by assumption) ?_
    rotate_left
    · (intro wz hSw; (try dsimp only at hSw); go_simp; try with_reducible rfl)
    simp only [Act.put, List.setIfInBounds_toArray, List.set_cons_zero, List.set_cons_succ]
    refine wpAnyH_ready (rs := [2]) (by kernel_rfl) (by simp) ?_
    refine AllReadyH.cons (o := ({ dst := some 45, op := Op.call { callee := Callee.value (Operand.func 6), args := #[Operand.tmp 44], argTypes := #[27] }, type := 32, pos := "law.go:49", after := #[{ on := 1, ground := Ground.data }], guard := none } : Oper)) rfl (fun K hK => ?_) AllReadyH.nil
    go_simp
    go_at_call 6
    refine (lift (to_V _ _ _ _ _ _ _) (by assumption) HCL.out).mono ?_
    rintro e v1 ⟨rfl, g1⟩
    clear hHeld
    refine hK.out _ _ g1 (fun hHeld => ?_)
    clear hK K
    refine wpAnyH_ready (rs := [4]) (by kernel_rfl) (by simp) ?_
    refine AllReadyH.cons (o := ({ dst := some 47, op := Op.call { callee := Callee.value (Operand.func 6), args := #[Operand.tmp 46], argTypes := #[27] }, type := 32, pos := "law.go:49", after := #[{ on := 3, ground := Ground.data }, { on := 2, ground := Ground.chain }], guard := none } : Oper)) rfl (fun K hK => ?_) AllReadyH.nil
    go_simp
    go_at_call 6
    refine (lift (to_V _ _ _ _ _ _ _) (by assumption) HCL.out).mono ?_
    rintro e v2 ⟨rfl, g2⟩
    clear hHeld g1
    refine hK.out _ _ g2 (fun hHeld => ?_)
    clear hK K
    refine wpAnyH_ready (rs := [5]) (by kernel_rfl) (by simp) ?_
    refine AllReadyH.cons (o := ({ dst := some 48, op := Op.call { callee := Callee.value (Operand.func 10), args := #[Operand.tmp 43, Operand.tmp 45, Operand.tmp 47], argTypes := #[3, 32, 32] }, type := 33, pos := "law.go:49", after := #[{ on := 0, ground := Ground.data }, { on := 2, ground := Ground.data }, { on := 4, ground := Ground.data }, { on := 4, ground := Ground.chain }], guard := none } : Oper)) rfl (fun K hK => ?_) AllReadyH.nil
    go_simp
    go_at_call 10
    refine (lift (cU _ (hHeld.2.2.2.2.2.2.2.2.2.2.2.2).out.2.2.2.2) (by assumption) HCL.out).mono ?_
    rintro e v3 ⟨rfl, g3⟩
    clear hHeld g2
    refine hK.out _ _ g3 (fun hHeld => ?_)
    clear hK K
    refine wpAnyH_take (i := 6) (oi := ({ dst := some 42, op := Op.move (Operand.tmp 48), type := 33, pos := "law.go:49", after := #[{ on := 5, ground := Ground.data }], guard := none } : Oper)) (v := ?_) rfl (by kernel_rfl) (by kernel_rfl) (by kernel_rfl) (fun _ _ _ h => h) (Or.inl ⟨by rfl, ?_⟩) (by assumption) ?_
    rotate_left
    · (intro wz hSw; (try dsimp only at hSw); go_simp; try with_reducible rfl)
    simp only [Act.put, List.setIfInBounds_toArray, List.set_cons_zero, List.set_cons_succ]
    refine wpAnyH_take (i := 7) (oi := ({ dst := some 49, op := Op.extract (Operand.tmp 42) 0, type := 32, pos := "law.go:49", after := #[{ on := 6, ground := Ground.data }], guard := none } : Oper)) (v := ?_) rfl (by kernel_rfl) (by kernel_rfl) (by kernel_rfl) (fun _ _ _ h => h) (Or.inl ⟨by rfl, ?_⟩) (by assumption) ?_
    rotate_left
    · (intro wz hSw; (try dsimp only at hSw); go_simp; try with_reducible rfl)
    simp only [Act.put, List.setIfInBounds_toArray, List.set_cons_zero, List.set_cons_succ]
    refine wpAnyH_take (i := 8) (oi := ({ dst := some 50, op := Op.extract (Operand.tmp 42) 1, type := 4, pos := "law.go:49", after := #[{ on := 6, ground := Ground.data }, { on := 9, ground := Ground.gcOnly Departure.lateStores }], guard := none } : Oper)) (v := ?_) rfl (by kernel_rfl) (by kernel_rfl) (by kernel_rfl) (fun _ _ _ h => h) (Or.inl ⟨by rfl, ?_⟩) (by assumption) ?_
    rotate_left
    · (intro wz hSw; (try dsimp only at hSw); go_simp; try with_reducible rfl)
    simp only [Act.put, List.setIfInBounds_toArray, List.set_cons_zero, List.set_cons_succ]
    refine wpAnyH_ready (rs := [9]) (by kernel_rfl) (by simp) ?_
    refine AllReadyH.cons (o := ({ dst := none, op := Op.store 32 (Operand.tmp 7) (Operand.tmp 49), type := 0, pos := "law.go:49", after := #[{ on := 7, ground := Ground.data }, { on := 5, ground := Ground.chain }, { on := 0, ground := Ground.phase }, { on := 1, ground := Ground.phase }, { on := 2, ground := Ground.phase }, { on := 3, ground := Ground.phase }, { on := 4, ground := Ground.phase }, { on := 5, ground := Ground.phase }, { on := 6, ground := Ground.phase }, { on := 7, ground := Ground.phase }, { on := 8, ground := Ground.textOnly Departure.lateStores }], guard := none } : Oper)) rfl (fun K hK => ?_) AllReadyH.nil
    have zz := (hHeld.2.2.2.2.2.2.2.2.2.2.2.2).out
    obtain ⟨y9s, y9k, y9n, y9l, y9h, y9p, zb, zf⟩ := zz.2.2.1
    have zc0 := zb.c0
    have zf0 := zf.f0
    have zc1 := zb.c1
    have zf1 := zf.f1
    have zc2 := zb.c2
    have zf2 := zf.f2
    have zc3 := zb.c3
    have zf3 := zf.f3
    have zc4 := zb.c4
    have zf4 := zf.f4
    have zc5 := zb.c5
    have zf5 := zf.f5
    go_simp
    have zw := zb.wrote (up tx.s) tx.k tx.n tx.lo tx.hi (up tx.p)
    have zi : Br (st6 v3 k7 (.int .i64 (up tx.s)) (.bool tx.k) (.int .i64 tx.n) (.int .i64 tx.lo) (.int .i64 tx.hi) (.int .i64 (up tx.p))) N (up X.s) X.k X.n X.lo X.hi (up X.p) ∧ Br (st6 v3 k7 (.int .i64 (up tx.s)) (.bool tx.k) (.int .i64 tx.n) (.int .i64 tx.lo) (.int .i64 tx.hi) (.int .i64 (up tx.p))) (N + 1) (up Y.s) Y.k Y.n Y.lo Y.hi (up Y.p) ∧ Rw (st6 v3 k7 (.int .i64 (up tx.s)) (.bool tx.k) (.int .i64 tx.n) (.int .i64 tx.lo) (.int .i64 tx.hi) (.int .i64 (up tx.p))) k7 ∧ Rw (st6 v3 k7 (.int .i64 (up tx.s)) (.bool tx.k) (.int .i64 tx.n) (.int .i64 tx.lo) (.int .i64 tx.hi) (.int .i64 (up tx.p))) k9 ∧ Below N w (st6 v3 k7 (.int .i64 (up tx.s)) (.bool tx.k) (.int .i64 tx.n) (.int .i64 tx.lo) (.int .i64 tx.hi) (.int .i64 (up tx.p))) := ⟨zz.1.put (by omega) _ _ _ _ _ _, zz.2.1.put (by omega) _ _ _ _ _ _, zz.2.2.1.put (up tx.s) tx.k tx.n tx.lo tx.hi (up tx.p), zz.2.2.2.1.puto (by omega) _ _ _ _ _ _, st6_below zz.2.2.2.2 _ (by omega) _ _ _ _ _ _⟩
    refine hK.out _ _ ⟨zi.1.c0, zi.1.c1, zi.1.c2, zi.1.c3, zi.1.c4, zi.1.c5, zi.2.1.c0, zi.2.1.c1, zi.2.1.c2, zi.2.1.c3, zi.2.1.c4, zi.2.1.c5, zi⟩ (fun _ => ?_)
    clear hK K zc0 zf0 zc1 zf1 zc2 zf2 zc3 zf3 zc4 zf4 zc5 zf5
    refine wpAnyH_take (i := 10) (oi := ({ dst := some 8, op := Op.assign (Operand.tmp 50), type := 4, pos := "law.go:49", after := #[{ on := 8, ground := Ground.data }, { on := 9, ground := Ground.chain }, { on := 0, ground := Ground.phase }, { on := 1, ground := Ground.phase }, { on := 2, ground := Ground.phase }, { on := 3, ground := Ground.phase }, { on := 4, ground := Ground.phase }, { on := 5, ground := Ground.phase }, { on := 6, ground := Ground.phase }, { on := 7, ground := Ground.phase }, { on := 8, ground := Ground.phase }, { on := 9, ground := Ground.phase }], guard := none } : Oper)) (v := ?_) rfl (by kernel_rfl) (by kernel_rfl) (by kernel_rfl) (fun _ _ _ h => h) (Or.inl ⟨by rfl, ?_⟩) (by assumption) ?_
    rotate_left
    · (intro wz hSw; (try dsimp only at hSw); go_simp; try with_reducible rfl)
    simp only [Act.put, List.setIfInBounds_toArray, List.set_cons_zero, List.set_cons_succ]
    refine wpAnyH_done (by kernel_rfl) ?_ _
    go_upto_region 7 with fail
    go_name_world W7 hW
    have H7 : Hid (Br W7 N (up X.s) X.k X.n X.lo X.hi (up X.p) ∧ Br W7 (N + 1) (up Y.s) Y.k Y.n Y.lo Y.hi (up Y.p) ∧ Br W7 k7 (up tx.s) tx.k tx.n tx.lo tx.hi (up tx.p) ∧ Rw W7 k7 ∧ Rw W7 k9 ∧ Below N w W7) := by
      rw [← hW]
      exact ⟨zi.1, zi.2.1, zw, zi.2.2.1, zi.2.2.2.1, zi.2.2.2.2⟩
    clear hW hS0 HCL hHeld g3 zz zb zf zw zi cU
    have a0 := H7.out.1.c0
    have a1 := H7.out.1.c1
    have a2 := H7.out.1.c2
    have a3 := H7.out.1.c3
    have a4 := H7.out.1.c4
    have a5 := H7.out.1.c5
    have b0 := H7.out.2.1.c0
    have b1 := H7.out.2.1.c1
    have b2 := H7.out.2.1.c2
    have b3 := H7.out.2.1.c3
    have b4 := H7.out.2.1.c4
    have b5 := H7.out.2.1.c5
    go_upto_region 8 with (go_at_call 11; refine (cR _).mono ?_; rintro e wK ⟨rfl, hK⟩; obtain ⟨s9, q9, n9x, lo9, hi9, p9, zb, zf⟩ := H7.out.2.2.2.2.1.keep hK; have c0 := zb.c0; have c1 := zb.c1; have c2 := zb.c2; have c3 := zb.c3; have c4 := zb.c4; have c5 := zb.c5; have f0 := zf.f0; have f1 := zf.f1; have f2 := zf.f2; have f3 := zf.f3; have f4 := zf.f4; have f5 := zf.f5)
    go_name_world W8 hW
    have H8 : Hid (Br W8 N (up X.s) X.k X.n X.lo X.hi (up X.p) ∧ Br W8 (N + 1) (up Y.s) Y.k Y.n Y.lo Y.hi (up Y.p) ∧ Br W8 k7 (up tx.s) tx.k tx.n tx.lo tx.hi (up tx.p) ∧ Br W8 k9 (up tx.s) tx.k tx.n tx.lo tx.hi (up tx.p) ∧ Rw W8 k7 ∧ Rw W8 k9 ∧ Below N w W8) := by
      rw [← hW]
      have y9 : Br wK N (up X.s) X.k X.n X.lo X.hi (up X.p) ∧ Br wK (N + 1) (up Y.s) Y.k Y.n Y.lo Y.hi (up Y.p) ∧ Br wK k7 (up tx.s) tx.k tx.n tx.lo tx.hi (up tx.p) ∧ Rw wK k7 ∧ Rw wK k9 ∧ Below N w wK := ⟨H7.out.1.keep hK, H7.out.2.1.keep hK, H7.out.2.2.1.keep hK, H7.out.2.2.2.1.keep hK, H7.out.2.2.2.2.1.keep hK, H7.out.2.2.2.2.2.trans (hK.mono (Nat.le_of_lt H7.out.1.lt))⟩
      exact ⟨y9.1.put (by omega) (.int .i64 (up tx.s)) (.bool tx.k) (.int .i64 tx.n) (.int .i64 tx.lo) (.int .i64 tx.hi) (.int .i64 (up tx.p)), y9.2.1.put (by omega) (.int .i64 (up tx.s)) (.bool tx.k) (.int .i64 tx.n) (.int .i64 tx.lo) (.int .i64 tx.hi) (.int .i64 (up tx.p)), y9.2.2.1.put (by omega) (.int .i64 (up tx.s)) (.bool tx.k) (.int .i64 tx.n) (.int .i64 tx.lo) (.int .i64 tx.hi) (.int .i64 (up tx.p)), zb.wrote (up tx.s) tx.k tx.n tx.lo tx.hi (up tx.p), y9.2.2.2.1.puto (by omega) (.int .i64 (up tx.s)) (.bool tx.k) (.int .i64 tx.n) (.int .i64 tx.lo) (.int .i64 tx.hi) (.int .i64 (up tx.p)), y9.2.2.2.2.1.put (up tx.s) tx.k tx.n tx.lo tx.hi (up tx.p), st6_below y9.2.2.2.2.2 _ (by omega) (.int .i64 (up tx.s)) (.bool tx.k) (.int .i64 tx.n) (.int .i64 tx.lo) (.int .i64 tx.hi) (.int .i64 (up tx.p))⟩
    clear hW hK zb zf H7 cR a0 a1 a2 a3 a4 a5 b0 b1 b2 b3 b4 b5 c0 c1 c2 c3 c4 c5 f0 f1 f2 f3 f4 f5
    have HCL : Hid (∀ a b : World, (a.cell? ⟨k7, 0, none⟩ = some (.int .i64 (up tx.s)) ∧ a.cell? ⟨k7, 1, none⟩ = some (.bool tx.k) ∧ a.cell? ⟨k7, 2, none⟩ = some (.int .i64 tx.n) ∧ a.cell? ⟨k7, 3, none⟩ = some (.int .i64 tx.lo) ∧ a.cell? ⟨k7, 4, none⟩ = some (.int .i64 tx.hi) ∧ a.cell? ⟨k7, 5, none⟩ = some (.int .i64 (up tx.p)) ∧ a.cell? ⟨k9, 0, none⟩ = some (.int .i64 (up tx.s)) ∧ a.cell? ⟨k9, 1, none⟩ = some (.bool tx.k) ∧ a.cell? ⟨k9, 2, none⟩ = some (.int .i64 tx.n) ∧ a.cell? ⟨k9, 3, none⟩ = some (.int .i64 tx.lo) ∧ a.cell? ⟨k9, 4, none⟩ = some (.int .i64 tx.hi) ∧ a.cell? ⟨k9, 5, none⟩ = some (.int .i64 (up tx.p)) ∧ Hid (Br a N (up X.s) X.k X.n X.lo X.hi (up X.p) ∧ Br a (N + 1) (up Y.s) Y.k Y.n Y.lo Y.hi (up Y.p) ∧ Br a k7 (up tx.s) tx.k tx.n tx.lo tx.hi (up tx.p) ∧ Br a k9 (up tx.s) tx.k tx.n tx.lo tx.hi (up tx.p) ∧ Rw a k7 ∧ Rw a k9 ∧ Below N w a)) → Below a.heap.size a b → (b.cell? ⟨k7, 0, none⟩ = some (.int .i64 (up tx.s)) ∧ b.cell? ⟨k7, 1, none⟩ = some (.bool tx.k) ∧ b.cell? ⟨k7, 2, none⟩ = some (.int .i64 tx.n) ∧ b.cell? ⟨k7, 3, none⟩ = some (.int .i64 tx.lo) ∧ b.cell? ⟨k7, 4, none⟩ = some (.int .i64 tx.hi) ∧ b.cell? ⟨k7, 5, none⟩ = some (.int .i64 (up tx.p)) ∧ b.cell? ⟨k9, 0, none⟩ = some (.int .i64 (up tx.s)) ∧ b.cell? ⟨k9, 1, none⟩ = some (.bool tx.k) ∧ b.cell? ⟨k9, 2, none⟩ = some (.int .i64 tx.n) ∧ b.cell? ⟨k9, 3, none⟩ = some (.int .i64 tx.lo) ∧ b.cell? ⟨k9, 4, none⟩ = some (.int .i64 tx.hi) ∧ b.cell? ⟨k9, 5, none⟩ = some (.int .i64 (up tx.p)) ∧ Hid (Br b N (up X.s) X.k X.n X.lo X.hi (up X.p) ∧ Br b (N + 1) (up Y.s) Y.k Y.n Y.lo Y.hi (up Y.p) ∧ Br b k7 (up tx.s) tx.k tx.n tx.lo tx.hi (up tx.p) ∧ Br b k9 (up tx.s) tx.k tx.n tx.lo tx.hi (up tx.p) ∧ Rw b k7 ∧ Rw b k9 ∧ Below N w b))) := fun a b h hb => by
      have y9 := (h.2.2.2.2.2.2.2.2.2.2.2.2).out
      have z9 : Br b N (up X.s) X.k X.n X.lo X.hi (up X.p) ∧ Br b (N + 1) (up Y.s) Y.k Y.n Y.lo Y.hi (up Y.p) ∧ Br b k7 (up tx.s) tx.k tx.n tx.lo tx.hi (up tx.p) ∧ Br b k9 (up tx.s) tx.k tx.n tx.lo tx.hi (up tx.p) ∧ Rw b k7 ∧ Rw b k9 ∧ Below N w b := ⟨y9.1.keep hb, y9.2.1.keep hb, y9.2.2.1.keep hb, y9.2.2.2.1.keep hb, y9.2.2.2.2.1.keep hb, y9.2.2.2.2.2.1.keep hb, y9.2.2.2.2.2.2.trans (hb.mono (Nat.le_of_lt y9.1.lt))⟩
      exact ⟨z9.2.2.1.c0, z9.2.2.1.c1, z9.2.2.1.c2, z9.2.2.1.c3, z9.2.2.1.c4, z9.2.2.1.c5, z9.2.2.2.1.c0, z9.2.2.2.1.c1, z9.2.2.2.1.c2, z9.2.2.2.1.c3, z9.2.2.2.1.c4, z9.2.2.2.1.c5, z9⟩
    have hS0 : W8.cell? ⟨k7, 0, none⟩ = some (.int .i64 (up tx.s)) ∧ W8.cell? ⟨k7, 1, none⟩ = some (.bool tx.k) ∧ W8.cell? ⟨k7, 2, none⟩ = some (.int .i64 tx.n) ∧ W8.cell? ⟨k7, 3, none⟩ = some (.int .i64 tx.lo) ∧ W8.cell? ⟨k7, 4, none⟩ = some (.int .i64 tx.hi) ∧ W8.cell? ⟨k7, 5, none⟩ = some (.int .i64 (up tx.p)) ∧ W8.cell? ⟨k9, 0, none⟩ = some (.int .i64 (up tx.s)) ∧ W8.cell? ⟨k9, 1, none⟩ = some (.bool tx.k) ∧ W8.cell? ⟨k9, 2, none⟩ = some (.int .i64 tx.n) ∧ W8.cell? ⟨k9, 3, none⟩ = some (.int .i64 tx.lo) ∧ W8.cell? ⟨k9, 4, none⟩ = some (.int .i64 tx.hi) ∧ W8.cell? ⟨k9, 5, none⟩ = some (.int .i64 (up tx.p)) ∧ Hid (Br W8 N (up X.s) X.k X.n X.lo X.hi (up X.p) ∧ Br W8 (N + 1) (up Y.s) Y.k Y.n Y.lo Y.hi (up Y.p) ∧ Br W8 k7 (up tx.s) tx.k tx.n tx.lo tx.hi (up tx.p) ∧ Br W8 k9 (up tx.s) tx.k tx.n tx.lo tx.hi (up tx.p) ∧ Rw W8 k7 ∧ Rw W8 k9 ∧ Below N w W8) := ⟨H8.out.2.2.1.c0, H8.out.2.2.1.c1, H8.out.2.2.1.c2, H8.out.2.2.1.c3, H8.out.2.2.1.c4, H8.out.2.2.1.c5, H8.out.2.2.2.1.c0, H8.out.2.2.2.1.c1, H8.out.2.2.2.1.c2, H8.out.2.2.2.1.c3, H8.out.2.2.2.1.c4, H8.out.2.2.2.1.c5, H8.out⟩
    clear H8
    refine wp_region_held_drew (S := fun w' => w'.cell? ⟨k7, 0, none⟩ = some (.int .i64 (up tx.s)) ∧ w'.cell? ⟨k7, 1, none⟩ = some (.bool tx.k) ∧ w'.cell? ⟨k7, 2, none⟩ = some (.int .i64 tx.n) ∧ w'.cell? ⟨k7, 3, none⟩ = some (.int .i64 tx.lo) ∧ w'.cell? ⟨k7, 4, none⟩ = some (.int .i64 tx.hi) ∧ w'.cell? ⟨k7, 5, none⟩ = some (.int .i64 (up tx.p)) ∧ w'.cell? ⟨k9, 0, none⟩ = some (.int .i64 (up tx.s)) ∧ w'.cell? ⟨k9, 1, none⟩ = some (.bool tx.k) ∧ w'.cell? ⟨k9, 2, none⟩ = some (.int .i64 tx.n) ∧ w'.cell? ⟨k9, 3, none⟩ = some (.int .i64 tx.lo) ∧ w'.cell? ⟨k9, 4, none⟩ = some (.int .i64 tx.hi) ∧ w'.cell? ⟨k9, 5, none⟩ = some (.int .i64 (up tx.p)) ∧ Hid (Br w' N (up X.s) X.k X.n X.lo X.hi (up X.p) ∧ Br w' (N + 1) (up Y.s) Y.k Y.n Y.lo Y.hi (up Y.p) ∧ Br w' k7 (up tx.s) tx.k tx.n tx.lo tx.hi (up tx.p) ∧ Br w' k9 (up tx.s) tx.k tx.n tx.lo tx.hi (up tx.p) ∧ Rw w' k7 ∧ Rw w' k9 ∧ Below N w w')) (by kernel_rfl) (HCL.out _ _ hS0 ((Below.refl _ _).drew)) (fun hHeld => ?_)
    refine wpAnyH_take (i := 0) (oi := ({ dst := some 58, op := Op.load 32 (Operand.tmp 7), type := 32, pos := "law.go:51", after := #[], guard := none } : Oper)) (v := ?_) rfl (by kernel_rfl) (by kernel_rfl) (by kernel_rfl) (fun _ _ _ h => h) (Or.inl ⟨by rfl, ?_⟩) (by assumption) ?_
    rotate_left
    · (intro wz hSw; (try dsimp only at hSw); go_simp; try with_reducible rfl)
    simp only [Act.put, List.setIfInBounds_toArray, List.set_cons_zero, List.set_cons_succ]
    refine wpAnyH_take (i := 2) (oi := ({ dst := some 60, op := Op.load 27 (Operand.tmp 9), type := 27, pos := "law.go:51", after := #[], guard := none } : Oper)) (v := ?_) rfl (by kernel_rfl) (by kernel_rfl) (by kernel_rfl) (fun _ _ _ h => h) (Or.inl ⟨by rfl, ?_⟩) (by assumption) ?_
    rotate_left
    · (intro wz hSw; (try dsimp only at hSw); go_simp; try with_reducible rfl)
    simp only [Act.put, List.setIfInBounds_toArray, List.set_cons_zero, List.set_cons_succ]
    refine wpAnyH_ready (rs := [1]) (by kernel_rfl) (by simp) ?_
    refine AllReadyH.cons (o := ({ dst := some 59, op := Op.call { callee := Callee.value (Operand.func 9), args := #[Operand.tmp 58], argTypes := #[32] }, type := 27, pos := "law.go:51", after := #[{ on := 0, ground := Ground.data }], guard := none } : Oper)) rfl (fun K hK => ?_) AllReadyH.nil
    go_simp
    go_at_call 9
    refine (lift (from_V _ _ _ _ _ _ _) (by assumption) HCL.out).mono ?_
    rintro e v1 ⟨rfl, g1⟩
    clear hHeld
    refine hK.out _ _ g1 (fun hHeld => ?_)
    clear hK K
    refine wpAnyH_take (i := 3) (oi := ({ dst := some 61, op := Op.binOp BinOp.neq 27 (Operand.tmp 59) (Operand.tmp 60) 27, type := 4, pos := "law.go:51", after := #[{ on := 1, ground := Ground.data }, { on := 2, ground := Ground.data }], guard := none } : Oper)) (v := ?_) rfl (by kernel_rfl) (by kernel_rfl) (by kernel_rfl) (fun _ _ _ h => h) (Or.inl ⟨by rfl, ?_⟩) (by assumption) ?_
    rotate_left
    · (intro wz hSw; (try dsimp only at hSw); go_simp; try with_reducible rfl)
    simp only [Act.put, List.setIfInBounds_toArray, List.set_cons_zero, List.set_cons_succ]
    refine wpAnyH_take (i := 4) (oi := ({ dst := some 62, op := Op.move (Operand.tmp 61), type := 4, pos := "law.go:51", after := #[{ on := 3, ground := Ground.data }, { on := 1, ground := Ground.chain }], guard := none } : Oper)) (v := ?_) rfl (by kernel_rfl) (by kernel_rfl) (by kernel_rfl) (fun _ _ _ h => h) (Or.inl ⟨by rfl, ?_⟩) (by assumption) ?_
    rotate_left
    · (intro wz hSw; (try dsimp only at hSw); go_simp; try with_reducible rfl)
    simp only [Act.put, List.setIfInBounds_toArray, List.set_cons_zero, List.set_cons_succ]
    refine wpAnyH_take (i := 5) (oi := ({ dst := some 63, op := Op.move (Operand.tmp 8), type := 4, pos := "law.go:51", after := #[{ on := 4, ground := Ground.guard }], guard := some (4, false) } : Oper)) (v := ?_) rfl (by kernel_rfl) (by kernel_rfl) (by kernel_rfl) (fun _ _ _ h => h) (Or.inl ⟨by rfl, ?_⟩) (by assumption) ?_
    rotate_left
    · (intro wz hSw; (try dsimp only at hSw); go_simp; try with_reducible rfl)
    simp only [Act.put, List.setIfInBounds_toArray, List.set_cons_zero, List.set_cons_succ]
    refine wpAnyH_take (i := 6) (oi := ({ dst := some 64, op := Op.move (Operand.tmp 10), type := 4, pos := "law.go:51", after := #[{ on := 4, ground := Ground.guard }], guard := some (4, false) } : Oper)) (v := ?_) rfl (by kernel_rfl) (by kernel_rfl) (by kernel_rfl) (fun _ _ _ h => h) (Or.inl ⟨by rfl, ?_⟩) (by assumption) ?_
    rotate_left
    · (intro wz hSw; (try dsimp only at hSw); go_simp; try with_reducible rfl)
    simp only [Act.put, List.setIfInBounds_toArray, List.set_cons_zero, List.set_cons_succ]
    refine wpAnyH_take (i := 7) (oi := ({ dst := some 65, op := Op.binOp BinOp.neq 4 (Operand.tmp 63) (Operand.tmp 64) 4, type := 4, pos := "law.go:51", after := #[{ on := 5, ground := Ground.data }, { on := 6, ground := Ground.data }, { on := 4, ground := Ground.guard }], guard := some (4, false) } : Oper)) (v := ?_) rfl (by kernel_rfl) (by kernel_rfl) (by kernel_rfl) (fun _ _ _ h => h) (Or.inl ⟨by rfl, ?_⟩) (by assumption) ?_
    rotate_left
    · (intro wz hSw; (try dsimp only at hSw); go_simp; try with_reducible rfl)
    simp only [Act.put, List.setIfInBounds_toArray, List.set_cons_zero, List.set_cons_succ]
    refine wpAnyH_take (i := 8) (oi := ({ dst := some 66, op := Op.pick (Operand.tmp 62) (Operand.const (Value.bool true)) (Operand.tmp 65), type := 4, pos := "law.go:51", after := #[{ on := 4, ground := Ground.data }, { on := 7, ground := Ground.data }], guard := none } : Oper)) (v := ?_) rfl (by kernel_rfl) (by kernel_rfl) (by kernel_rfl) (fun _ _ _ h => h) (Or.inl ⟨by rfl, ?_⟩) (by assumption) ?_
    rotate_left
    · (intro wz hSw; (try dsimp only at hSw); go_simp; try with_reducible rfl)
    simp only [Act.put, List.setIfInBounds_toArray, List.set_cons_zero, List.set_cons_succ]
    refine wpAnyH_done (by kernel_rfl) ?_ _
    have H9 : Hid (Br v1 N (up X.s) X.k X.n X.lo X.hi (up X.p) ∧ Br v1 (N + 1) (up Y.s) Y.k Y.n Y.lo Y.hi (up Y.p) ∧ Br v1 k7 (up tx.s) tx.k tx.n tx.lo tx.hi (up tx.p) ∧ Br v1 k9 (up tx.s) tx.k tx.n tx.lo tx.hi (up tx.p) ∧ Rw v1 k7 ∧ Rw v1 k9 ∧ Below N w v1) := hide (g1.2.2.2.2.2.2.2.2.2.2.2.2).out
    clear hS0 HCL hHeld g1
    have H10 : Hid (Br v1 N (up X.s) X.k X.n X.lo X.hi (up X.p) ∧ Br v1 (N + 1) (up Y.s) Y.k Y.n Y.lo Y.hi (up Y.p) ∧ Rw v1 k7 ∧ Rw v1 k9 ∧ Below N w v1) := ⟨H9.out.1, H9.out.2.1, H9.out.2.2.2.2.1, H9.out.2.2.2.2.2.1, H9.out.2.2.2.2.2.2⟩
    clear H9
    go_wp2_with fail
    go_loopw [11] (fun ix wr => ∃ i : Nat, i ≤ 2 ∧ ix = .int .i64 i ∧ Hid (Br wr N (up X.s) X.k X.n X.lo X.hi (up X.p) ∧ Br wr (N + 1) (up Y.s) Y.k Y.n Y.lo Y.hi (up Y.p) ∧ Rw wr k7 ∧ Rw wr k9 ∧ Below N w wr)) (fun i _ => 2 - (intOf i).toNat)
    case atStart => exact ⟨0, by omega, rfl, H10⟩
    case round =>
      obtain ⟨i, hi, rfl, RA⟩ := hrel
      clear H10
      rcases (by omega : i = 0 ∨ i = 1 ∨ i = 2) with rfl | rfl | rfl
      · have cP := fun w => branch_V X false w
        have cQ := fun w => rbranchr_V X false w
        generalize branchV X false = BP at *
        obtain ⟨bp, ip⟩ := BP
        dsimp only at cP cQ
        have a0 := RA.out.1.c0
        have a1 := RA.out.1.c1
        have a2 := RA.out.1.c2
        have a3 := RA.out.1.c3
        have a4 := RA.out.1.c4
        have a5 := RA.out.1.c5
        go_upto_region 14 with (first | (go_at_call 6; refine (to_V _ _ _ _ _ _ _).mono ?_; rintro e wJ ⟨rfl, hJ⟩; have RQ := hide (show Br wJ N (up X.s) X.k X.n X.lo X.hi (up X.p) ∧ Br wJ (N + 1) (up Y.s) Y.k Y.n Y.lo Y.hi (up Y.p) ∧ Rw wJ k7 ∧ Rw wJ k9 ∧ Below N w wJ from ⟨RA.out.1.keep hJ, RA.out.2.1.keep hJ, RA.out.2.2.1.keep hJ, RA.out.2.2.2.1.keep hJ, RA.out.2.2.2.2.trans (hJ.mono (Nat.le_of_lt RA.out.1.lt))⟩)) | (go_at_call 12; refine (cP _).mono ?_; rintro e wK ⟨rfl, hK⟩; obtain ⟨s9, q9, n9x, lo9, hi9, p9, zb, zf⟩ := RQ.out.2.2.1.keep hK; have c0 := zb.c0; have c1 := zb.c1; have c2 := zb.c2; have c3 := zb.c3; have c4 := zb.c4; have c5 := zb.c5; have f0 := zf.f0; have f1 := zf.f1; have f2 := zf.f2; have f3 := zf.f3; have f4 := zf.f4; have f5 := zf.f5))
        go_name_world W14 hW
        have R14 : Hid (Br W14 N (up X.s) X.k X.n X.lo X.hi (up X.p) ∧ Br W14 (N + 1) (up Y.s) Y.k Y.n Y.lo Y.hi (up Y.p) ∧ Br W14 k7 (up bp.s) bp.k bp.n bp.lo bp.hi (up bp.p) ∧ Rw W14 k7 ∧ Rw W14 k9 ∧ Below N w W14) := by
          rw [← hW]
          have y9 : Br wK N (up X.s) X.k X.n X.lo X.hi (up X.p) ∧ Br wK (N + 1) (up Y.s) Y.k Y.n Y.lo Y.hi (up Y.p) ∧ Rw wK k7 ∧ Rw wK k9 ∧ Below N w wK := ⟨RQ.out.1.keep hK, RQ.out.2.1.keep hK, RQ.out.2.2.1.keep hK, RQ.out.2.2.2.1.keep hK, RQ.out.2.2.2.2.trans (hK.mono (Nat.le_of_lt RQ.out.1.lt))⟩
          exact ⟨y9.1.put (by omega) (.int .i64 (up bp.s)) (.bool bp.k) (.int .i64 bp.n) (.int .i64 bp.lo) (.int .i64 bp.hi) (.int .i64 (up bp.p)), y9.2.1.put (by omega) (.int .i64 (up bp.s)) (.bool bp.k) (.int .i64 bp.n) (.int .i64 bp.lo) (.int .i64 bp.hi) (.int .i64 (up bp.p)), zb.wrote (up bp.s) bp.k bp.n bp.lo bp.hi (up bp.p), y9.2.2.1.put (up bp.s) bp.k bp.n bp.lo bp.hi (up bp.p), y9.2.2.2.1.puto (by omega) (.int .i64 (up bp.s)) (.bool bp.k) (.int .i64 bp.n) (.int .i64 bp.lo) (.int .i64 bp.hi) (.int .i64 (up bp.p)), st6_below y9.2.2.2.2 _ (by omega) (.int .i64 (up bp.s)) (.bool bp.k) (.int .i64 bp.n) (.int .i64 bp.lo) (.int .i64 bp.hi) (.int .i64 (up bp.p))⟩
        clear hW hK hJ zb zf RQ RA cP a0 a1 a2 a3 a4 a5 c0 c1 c2 c3 c4 c5 f0 f1 f2 f3 f4 f5
        have a0 := R14.out.1.c0
        have a1 := R14.out.1.c1
        have a2 := R14.out.1.c2
        have a3 := R14.out.1.c3
        have a4 := R14.out.1.c4
        have a5 := R14.out.1.c5
        go_upto_region 15 with (go_at_call 13; refine (cQ _).mono ?_; rintro e wK ⟨rfl, hK⟩; obtain ⟨s9, q9, n9x, lo9, hi9, p9, zb, zf⟩ := R14.out.2.2.2.2.1.keep hK; have c0 := zb.c0; have c1 := zb.c1; have c2 := zb.c2; have c3 := zb.c3; have c4 := zb.c4; have c5 := zb.c5; have f0 := zf.f0; have f1 := zf.f1; have f2 := zf.f2; have f3 := zf.f3; have f4 := zf.f4; have f5 := zf.f5)
        go_name_world W15 hW
        have R15 : Hid (Br W15 N (up X.s) X.k X.n X.lo X.hi (up X.p) ∧ Br W15 (N + 1) (up Y.s) Y.k Y.n Y.lo Y.hi (up Y.p) ∧ Br W15 k7 (up bp.s) bp.k bp.n bp.lo bp.hi (up bp.p) ∧ Br W15 k9 (up bp.s) bp.k bp.n bp.lo bp.hi (up bp.p) ∧ Rw W15 k7 ∧ Rw W15 k9 ∧ Below N w W15) := by
          rw [← hW]
          have y9 : Br wK N (up X.s) X.k X.n X.lo X.hi (up X.p) ∧ Br wK (N + 1) (up Y.s) Y.k Y.n Y.lo Y.hi (up Y.p) ∧ Br wK k7 (up bp.s) bp.k bp.n bp.lo bp.hi (up bp.p) ∧ Rw wK k7 ∧ Rw wK k9 ∧ Below N w wK := ⟨R14.out.1.keep hK, R14.out.2.1.keep hK, R14.out.2.2.1.keep hK, R14.out.2.2.2.1.keep hK, R14.out.2.2.2.2.1.keep hK, R14.out.2.2.2.2.2.trans (hK.mono (Nat.le_of_lt R14.out.1.lt))⟩
          exact ⟨y9.1.put (by omega) (.int .i64 (up bp.s)) (.bool bp.k) (.int .i64 bp.n) (.int .i64 bp.lo) (.int .i64 bp.hi) (.int .i64 (up bp.p)), y9.2.1.put (by omega) (.int .i64 (up bp.s)) (.bool bp.k) (.int .i64 bp.n) (.int .i64 bp.lo) (.int .i64 bp.hi) (.int .i64 (up bp.p)), y9.2.2.1.put (by omega) (.int .i64 (up bp.s)) (.bool bp.k) (.int .i64 bp.n) (.int .i64 bp.lo) (.int .i64 bp.hi) (.int .i64 (up bp.p)), zb.wrote (up bp.s) bp.k bp.n bp.lo bp.hi (up bp.p), y9.2.2.2.1.puto (by omega) (.int .i64 (up bp.s)) (.bool bp.k) (.int .i64 bp.n) (.int .i64 bp.lo) (.int .i64 bp.hi) (.int .i64 (up bp.p)), y9.2.2.2.2.1.put (up bp.s) bp.k bp.n bp.lo bp.hi (up bp.p), st6_below y9.2.2.2.2.2 _ (by omega) (.int .i64 (up bp.s)) (.bool bp.k) (.int .i64 bp.n) (.int .i64 bp.lo) (.int .i64 bp.hi) (.int .i64 (up bp.p))⟩
        clear hW hK zb zf R14 cQ a0 a1 a2 a3 a4 a5 c0 c1 c2 c3 c4 c5 f0 f1 f2 f3 f4 f5
        have HCL : Hid (∀ a b : World, (a.cell? ⟨k7, 0, none⟩ = some (.int .i64 (up bp.s)) ∧ a.cell? ⟨k7, 1, none⟩ = some (.bool bp.k) ∧ a.cell? ⟨k7, 2, none⟩ = some (.int .i64 bp.n) ∧ a.cell? ⟨k7, 3, none⟩ = some (.int .i64 bp.lo) ∧ a.cell? ⟨k7, 4, none⟩ = some (.int .i64 bp.hi) ∧ a.cell? ⟨k7, 5, none⟩ = some (.int .i64 (up bp.p)) ∧ a.cell? ⟨k9, 0, none⟩ = some (.int .i64 (up bp.s)) ∧ a.cell? ⟨k9, 1, none⟩ = some (.bool bp.k) ∧ a.cell? ⟨k9, 2, none⟩ = some (.int .i64 bp.n) ∧ a.cell? ⟨k9, 3, none⟩ = some (.int .i64 bp.lo) ∧ a.cell? ⟨k9, 4, none⟩ = some (.int .i64 bp.hi) ∧ a.cell? ⟨k9, 5, none⟩ = some (.int .i64 (up bp.p)) ∧ Hid (Br a N (up X.s) X.k X.n X.lo X.hi (up X.p) ∧ Br a (N + 1) (up Y.s) Y.k Y.n Y.lo Y.hi (up Y.p) ∧ Br a k7 (up bp.s) bp.k bp.n bp.lo bp.hi (up bp.p) ∧ Br a k9 (up bp.s) bp.k bp.n bp.lo bp.hi (up bp.p) ∧ Rw a k7 ∧ Rw a k9 ∧ Below N w a)) → Below a.heap.size a b → (b.cell? ⟨k7, 0, none⟩ = some (.int .i64 (up bp.s)) ∧ b.cell? ⟨k7, 1, none⟩ = some (.bool bp.k) ∧ b.cell? ⟨k7, 2, none⟩ = some (.int .i64 bp.n) ∧ b.cell? ⟨k7, 3, none⟩ = some (.int .i64 bp.lo) ∧ b.cell? ⟨k7, 4, none⟩ = some (.int .i64 bp.hi) ∧ b.cell? ⟨k7, 5, none⟩ = some (.int .i64 (up bp.p)) ∧ b.cell? ⟨k9, 0, none⟩ = some (.int .i64 (up bp.s)) ∧ b.cell? ⟨k9, 1, none⟩ = some (.bool bp.k) ∧ b.cell? ⟨k9, 2, none⟩ = some (.int .i64 bp.n) ∧ b.cell? ⟨k9, 3, none⟩ = some (.int .i64 bp.lo) ∧ b.cell? ⟨k9, 4, none⟩ = some (.int .i64 bp.hi) ∧ b.cell? ⟨k9, 5, none⟩ = some (.int .i64 (up bp.p)) ∧ Hid (Br b N (up X.s) X.k X.n X.lo X.hi (up X.p) ∧ Br b (N + 1) (up Y.s) Y.k Y.n Y.lo Y.hi (up Y.p) ∧ Br b k7 (up bp.s) bp.k bp.n bp.lo bp.hi (up bp.p) ∧ Br b k9 (up bp.s) bp.k bp.n bp.lo bp.hi (up bp.p) ∧ Rw b k7 ∧ Rw b k9 ∧ Below N w b))) := fun a b h hb => by
          have y9 := (h.2.2.2.2.2.2.2.2.2.2.2.2).out
          have z9 : Br b N (up X.s) X.k X.n X.lo X.hi (up X.p) ∧ Br b (N + 1) (up Y.s) Y.k Y.n Y.lo Y.hi (up Y.p) ∧ Br b k7 (up bp.s) bp.k bp.n bp.lo bp.hi (up bp.p) ∧ Br b k9 (up bp.s) bp.k bp.n bp.lo bp.hi (up bp.p) ∧ Rw b k7 ∧ Rw b k9 ∧ Below N w b := ⟨y9.1.keep hb, y9.2.1.keep hb, y9.2.2.1.keep hb, y9.2.2.2.1.keep hb, y9.2.2.2.2.1.keep hb, y9.2.2.2.2.2.1.keep hb, y9.2.2.2.2.2.2.trans (hb.mono (Nat.le_of_lt y9.1.lt))⟩
          exact ⟨z9.2.2.1.c0, z9.2.2.1.c1, z9.2.2.1.c2, z9.2.2.1.c3, z9.2.2.1.c4, z9.2.2.1.c5, z9.2.2.2.1.c0, z9.2.2.2.1.c1, z9.2.2.2.1.c2, z9.2.2.2.1.c3, z9.2.2.2.1.c4, z9.2.2.2.1.c5, z9⟩
        have hS0 : W15.cell? ⟨k7, 0, none⟩ = some (.int .i64 (up bp.s)) ∧ W15.cell? ⟨k7, 1, none⟩ = some (.bool bp.k) ∧ W15.cell? ⟨k7, 2, none⟩ = some (.int .i64 bp.n) ∧ W15.cell? ⟨k7, 3, none⟩ = some (.int .i64 bp.lo) ∧ W15.cell? ⟨k7, 4, none⟩ = some (.int .i64 bp.hi) ∧ W15.cell? ⟨k7, 5, none⟩ = some (.int .i64 (up bp.p)) ∧ W15.cell? ⟨k9, 0, none⟩ = some (.int .i64 (up bp.s)) ∧ W15.cell? ⟨k9, 1, none⟩ = some (.bool bp.k) ∧ W15.cell? ⟨k9, 2, none⟩ = some (.int .i64 bp.n) ∧ W15.cell? ⟨k9, 3, none⟩ = some (.int .i64 bp.lo) ∧ W15.cell? ⟨k9, 4, none⟩ = some (.int .i64 bp.hi) ∧ W15.cell? ⟨k9, 5, none⟩ = some (.int .i64 (up bp.p)) ∧ Hid (Br W15 N (up X.s) X.k X.n X.lo X.hi (up X.p) ∧ Br W15 (N + 1) (up Y.s) Y.k Y.n Y.lo Y.hi (up Y.p) ∧ Br W15 k7 (up bp.s) bp.k bp.n bp.lo bp.hi (up bp.p) ∧ Br W15 k9 (up bp.s) bp.k bp.n bp.lo bp.hi (up bp.p) ∧ Rw W15 k7 ∧ Rw W15 k9 ∧ Below N w W15) := ⟨R15.out.2.2.1.c0, R15.out.2.2.1.c1, R15.out.2.2.1.c2, R15.out.2.2.1.c3, R15.out.2.2.1.c4, R15.out.2.2.1.c5, R15.out.2.2.2.1.c0, R15.out.2.2.2.1.c1, R15.out.2.2.2.1.c2, R15.out.2.2.2.1.c3, R15.out.2.2.2.1.c4, R15.out.2.2.2.1.c5, R15.out⟩
        clear R15
        refine wp_region_held_drew (S := fun w' => w'.cell? ⟨k7, 0, none⟩ = some (.int .i64 (up bp.s)) ∧ w'.cell? ⟨k7, 1, none⟩ = some (.bool bp.k) ∧ w'.cell? ⟨k7, 2, none⟩ = some (.int .i64 bp.n) ∧ w'.cell? ⟨k7, 3, none⟩ = some (.int .i64 bp.lo) ∧ w'.cell? ⟨k7, 4, none⟩ = some (.int .i64 bp.hi) ∧ w'.cell? ⟨k7, 5, none⟩ = some (.int .i64 (up bp.p)) ∧ w'.cell? ⟨k9, 0, none⟩ = some (.int .i64 (up bp.s)) ∧ w'.cell? ⟨k9, 1, none⟩ = some (.bool bp.k) ∧ w'.cell? ⟨k9, 2, none⟩ = some (.int .i64 bp.n) ∧ w'.cell? ⟨k9, 3, none⟩ = some (.int .i64 bp.lo) ∧ w'.cell? ⟨k9, 4, none⟩ = some (.int .i64 bp.hi) ∧ w'.cell? ⟨k9, 5, none⟩ = some (.int .i64 (up bp.p)) ∧ Hid (Br w' N (up X.s) X.k X.n X.lo X.hi (up X.p) ∧ Br w' (N + 1) (up Y.s) Y.k Y.n Y.lo Y.hi (up Y.p) ∧ Br w' k7 (up bp.s) bp.k bp.n bp.lo bp.hi (up bp.p) ∧ Br w' k9 (up bp.s) bp.k bp.n bp.lo bp.hi (up bp.p) ∧ Rw w' k7 ∧ Rw w' k9 ∧ Below N w w')) (by kernel_rfl) (HCL.out _ _ hS0 ((Below.refl _ _).drew)) (fun hHeld => ?_)
        refine wpAnyH_take (i := 0) (oi := ({ dst := some 86, op := Op.load 32 (Operand.tmp 7), type := 32, pos := "law.go:57", after := #[], guard := none } : Oper)) (v := ?_) rfl (by kernel_rfl) (by kernel_rfl) (by kernel_rfl) (fun _ _ _ h => h) (Or.inl ⟨by rfl, ?_⟩) (by assumption) ?_
        rotate_left
        · (intro wz hSw; (try dsimp only at hSw); go_simp; try with_reducible rfl)
        simp only [Act.put, List.setIfInBounds_toArray, List.set_cons_zero, List.set_cons_succ]
        refine wpAnyH_take (i := 2) (oi := ({ dst := some 88, op := Op.load 27 (Operand.tmp 9), type := 27, pos := "law.go:57", after := #[], guard := none } : Oper)) (v := ?_) rfl (by kernel_rfl) (by kernel_rfl) (by kernel_rfl) (fun _ _ _ h => h) (Or.inl ⟨by rfl, ?_⟩) (by assumption) ?_
        rotate_left
        · (intro wz hSw; (try dsimp only at hSw); go_simp; try with_reducible rfl)
        simp only [Act.put, List.setIfInBounds_toArray, List.set_cons_zero, List.set_cons_succ]
        refine wpAnyH_ready (rs := [1]) (by kernel_rfl) (by simp) ?_
        refine AllReadyH.cons (o := ({ dst := some 87, op := Op.call { callee := Callee.value (Operand.func 9), args := #[Operand.tmp 86], argTypes := #[32] }, type := 27, pos := "law.go:57", after := #[{ on := 0, ground := Ground.data }], guard := none } : Oper)) rfl (fun K hK => ?_) AllReadyH.nil
        go_simp
        go_at_call 9
        refine (lift (from_V _ _ _ _ _ _ _) (by assumption) HCL.out).mono ?_
        rintro e v1 ⟨rfl, g1⟩
        clear hHeld
        refine hK.out _ _ g1 (fun hHeld => ?_)
        clear hK K
        refine wpAnyH_take (i := 3) (oi := ({ dst := some 89, op := Op.binOp BinOp.neq 27 (Operand.tmp 87) (Operand.tmp 88) 27, type := 4, pos := "law.go:57", after := #[{ on := 1, ground := Ground.data }, { on := 2, ground := Ground.data }], guard := none } : Oper)) (v := ?_) rfl (by kernel_rfl) (by kernel_rfl) (by kernel_rfl) (fun _ _ _ h => h) (Or.inl ⟨by rfl, ?_⟩) (by assumption) ?_
        rotate_left
        · (intro wz hSw; (try dsimp only at hSw); go_simp; try with_reducible rfl)
        simp only [Act.put, List.setIfInBounds_toArray, List.set_cons_zero, List.set_cons_succ]
        refine wpAnyH_take (i := 4) (oi := ({ dst := some 90, op := Op.move (Operand.tmp 89), type := 4, pos := "law.go:57", after := #[{ on := 3, ground := Ground.data }, { on := 1, ground := Ground.chain }], guard := none } : Oper)) (v := ?_) rfl (by kernel_rfl) (by kernel_rfl) (by kernel_rfl) (fun _ _ _ h => h) (Or.inl ⟨by rfl, ?_⟩) (by assumption) ?_
        rotate_left
        · (intro wz hSw; (try dsimp only at hSw); go_simp; try with_reducible rfl)
        simp only [Act.put, List.setIfInBounds_toArray, List.set_cons_zero, List.set_cons_succ]
        refine wpAnyH_take (i := 5) (oi := ({ dst := some 91, op := Op.move (Operand.tmp 8), type := 4, pos := "law.go:57", after := #[{ on := 4, ground := Ground.guard }], guard := some (4, false) } : Oper)) (v := ?_) rfl (by kernel_rfl) (by kernel_rfl) (by kernel_rfl) (fun _ _ _ h => h) (Or.inl ⟨by rfl, ?_⟩) (by assumption) ?_
        rotate_left
        · (intro wz hSw; (try dsimp only at hSw); go_simp; try with_reducible rfl)
        simp only [Act.put, List.setIfInBounds_toArray, List.set_cons_zero, List.set_cons_succ]
        refine wpAnyH_take (i := 6) (oi := ({ dst := some 92, op := Op.move (Operand.tmp 10), type := 4, pos := "law.go:57", after := #[{ on := 4, ground := Ground.guard }], guard := some (4, false) } : Oper)) (v := ?_) rfl (by kernel_rfl) (by kernel_rfl) (by kernel_rfl) (fun _ _ _ h => h) (Or.inl ⟨by rfl, ?_⟩) (by assumption) ?_
        rotate_left
        · (intro wz hSw; (try dsimp only at hSw); go_simp; try with_reducible rfl)
        simp only [Act.put, List.setIfInBounds_toArray, List.set_cons_zero, List.set_cons_succ]
        refine wpAnyH_take (i := 7) (oi := ({ dst := some 93, op := Op.binOp BinOp.neq 4 (Operand.tmp 91) (Operand.tmp 92) 4, type := 4, pos := "law.go:57", after := #[{ on := 5, ground := Ground.data }, { on := 6, ground := Ground.data }, { on := 4, ground := Ground.guard }], guard := some (4, false) } : Oper)) (v := ?_) rfl (by kernel_rfl) (by kernel_rfl) (by kernel_rfl) (fun _ _ _ h => h) (Or.inl ⟨by rfl, ?_⟩) (by assumption) ?_
        rotate_left
        · (intro wz hSw; (try dsimp only at hSw); go_simp; try with_reducible rfl)
        simp only [Act.put, List.setIfInBounds_toArray, List.set_cons_zero, List.set_cons_succ]
        refine wpAnyH_take (i := 8) (oi := ({ dst := some 94, op := Op.pick (Operand.tmp 90) (Operand.const (Value.bool true)) (Operand.tmp 93), type := 4, pos := "law.go:57", after := #[{ on := 4, ground := Ground.data }, { on := 7, ground := Ground.data }], guard := none } : Oper)) (v := ?_) rfl (by kernel_rfl) (by kernel_rfl) (by kernel_rfl) (fun _ _ _ h => h) (Or.inl ⟨by rfl, ?_⟩) (by assumption) ?_
        rotate_left
        · (intro wz hSw; (try dsimp only at hSw); go_simp; try with_reducible rfl)
        simp only [Act.put, List.setIfInBounds_toArray, List.set_cons_zero, List.set_cons_succ]
        refine wpAnyH_done (by kernel_rfl) ?_ _
        have R16 : Hid (Br v1 N (up X.s) X.k X.n X.lo X.hi (up X.p) ∧ Br v1 (N + 1) (up Y.s) Y.k Y.n Y.lo Y.hi (up Y.p) ∧ Br v1 k7 (up bp.s) bp.k bp.n bp.lo bp.hi (up bp.p) ∧ Br v1 k9 (up bp.s) bp.k bp.n bp.lo bp.hi (up bp.p) ∧ Rw v1 k7 ∧ Rw v1 k9 ∧ Below N w v1) := hide (g1.2.2.2.2.2.2.2.2.2.2.2.2).out
        clear hS0 HCL hHeld g1
        go_wp2_with fail
        go_round
        case rel => exact ⟨1, by omega, rfl, ⟨R16.out.1, R16.out.2.1, R16.out.2.2.2.2.1, R16.out.2.2.2.2.2.1, R16.out.2.2.2.2.2.2⟩⟩
        case measure => simp [intOf]
      · have cP := fun w => branch_V X true w
        have cQ := fun w => rbranchr_V X true w
        generalize branchV X true = BP at *
        obtain ⟨bp, ip⟩ := BP
        dsimp only at cP cQ
        have a0 := RA.out.1.c0
        have a1 := RA.out.1.c1
        have a2 := RA.out.1.c2
        have a3 := RA.out.1.c3
        have a4 := RA.out.1.c4
        have a5 := RA.out.1.c5
        go_upto_region 14 with (first | (go_at_call 6; refine (to_V _ _ _ _ _ _ _).mono ?_; rintro e wJ ⟨rfl, hJ⟩; have RQ := hide (show Br wJ N (up X.s) X.k X.n X.lo X.hi (up X.p) ∧ Br wJ (N + 1) (up Y.s) Y.k Y.n Y.lo Y.hi (up Y.p) ∧ Rw wJ k7 ∧ Rw wJ k9 ∧ Below N w wJ from ⟨RA.out.1.keep hJ, RA.out.2.1.keep hJ, RA.out.2.2.1.keep hJ, RA.out.2.2.2.1.keep hJ, RA.out.2.2.2.2.trans (hJ.mono (Nat.le_of_lt RA.out.1.lt))⟩)) | (go_at_call 12; refine (cP _).mono ?_; rintro e wK ⟨rfl, hK⟩; obtain ⟨s9, q9, n9x, lo9, hi9, p9, zb, zf⟩ := RQ.out.2.2.1.keep hK; have c0 := zb.c0; have c1 := zb.c1; have c2 := zb.c2; have c3 := zb.c3; have c4 := zb.c4; have c5 := zb.c5; have f0 := zf.f0; have f1 := zf.f1; have f2 := zf.f2; have f3 := zf.f3; have f4 := zf.f4; have f5 := zf.f5))
        go_name_world W14 hW
        have R14 : Hid (Br W14 N (up X.s) X.k X.n X.lo X.hi (up X.p) ∧ Br W14 (N + 1) (up Y.s) Y.k Y.n Y.lo Y.hi (up Y.p) ∧ Br W14 k7 (up bp.s) bp.k bp.n bp.lo bp.hi (up bp.p) ∧ Rw W14 k7 ∧ Rw W14 k9 ∧ Below N w W14) := by
          rw [← hW]
          have y9 : Br wK N (up X.s) X.k X.n X.lo X.hi (up X.p) ∧ Br wK (N + 1) (up Y.s) Y.k Y.n Y.lo Y.hi (up Y.p) ∧ Rw wK k7 ∧ Rw wK k9 ∧ Below N w wK := ⟨RQ.out.1.keep hK, RQ.out.2.1.keep hK, RQ.out.2.2.1.keep hK, RQ.out.2.2.2.1.keep hK, RQ.out.2.2.2.2.trans (hK.mono (Nat.le_of_lt RQ.out.1.lt))⟩
          exact ⟨y9.1.put (by omega) (.int .i64 (up bp.s)) (.bool bp.k) (.int .i64 bp.n) (.int .i64 bp.lo) (.int .i64 bp.hi) (.int .i64 (up bp.p)), y9.2.1.put (by omega) (.int .i64 (up bp.s)) (.bool bp.k) (.int .i64 bp.n) (.int .i64 bp.lo) (.int .i64 bp.hi) (.int .i64 (up bp.p)), zb.wrote (up bp.s) bp.k bp.n bp.lo bp.hi (up bp.p), y9.2.2.1.put (up bp.s) bp.k bp.n bp.lo bp.hi (up bp.p), y9.2.2.2.1.puto (by omega) (.int .i64 (up bp.s)) (.bool bp.k) (.int .i64 bp.n) (.int .i64 bp.lo) (.int .i64 bp.hi) (.int .i64 (up bp.p)), st6_below y9.2.2.2.2 _ (by omega) (.int .i64 (up bp.s)) (.bool bp.k) (.int .i64 bp.n) (.int .i64 bp.lo) (.int .i64 bp.hi) (.int .i64 (up bp.p))⟩
        clear hW hK hJ zb zf RQ RA cP a0 a1 a2 a3 a4 a5 c0 c1 c2 c3 c4 c5 f0 f1 f2 f3 f4 f5
        have a0 := R14.out.1.c0
        have a1 := R14.out.1.c1
        have a2 := R14.out.1.c2
        have a3 := R14.out.1.c3
        have a4 := R14.out.1.c4
        have a5 := R14.out.1.c5
        go_upto_region 15 with (go_at_call 13; refine (cQ _).mono ?_; rintro e wK ⟨rfl, hK⟩; obtain ⟨s9, q9, n9x, lo9, hi9, p9, zb, zf⟩ := R14.out.2.2.2.2.1.keep hK; have c0 := zb.c0; have c1 := zb.c1; have c2 := zb.c2; have c3 := zb.c3; have c4 := zb.c4; have c5 := zb.c5; have f0 := zf.f0; have f1 := zf.f1; have f2 := zf.f2; have f3 := zf.f3; have f4 := zf.f4; have f5 := zf.f5)
        go_name_world W15 hW
        have R15 : Hid (Br W15 N (up X.s) X.k X.n X.lo X.hi (up X.p) ∧ Br W15 (N + 1) (up Y.s) Y.k Y.n Y.lo Y.hi (up Y.p) ∧ Br W15 k7 (up bp.s) bp.k bp.n bp.lo bp.hi (up bp.p) ∧ Br W15 k9 (up bp.s) bp.k bp.n bp.lo bp.hi (up bp.p) ∧ Rw W15 k7 ∧ Rw W15 k9 ∧ Below N w W15) := by
          rw [← hW]
          have y9 : Br wK N (up X.s) X.k X.n X.lo X.hi (up X.p) ∧ Br wK (N + 1) (up Y.s) Y.k Y.n Y.lo Y.hi (up Y.p) ∧ Br wK k7 (up bp.s) bp.k bp.n bp.lo bp.hi (up bp.p) ∧ Rw wK k7 ∧ Rw wK k9 ∧ Below N w wK := ⟨R14.out.1.keep hK, R14.out.2.1.keep hK, R14.out.2.2.1.keep hK, R14.out.2.2.2.1.keep hK, R14.out.2.2.2.2.1.keep hK, R14.out.2.2.2.2.2.trans (hK.mono (Nat.le_of_lt R14.out.1.lt))⟩
          exact ⟨y9.1.put (by omega) (.int .i64 (up bp.s)) (.bool bp.k) (.int .i64 bp.n) (.int .i64 bp.lo) (.int .i64 bp.hi) (.int .i64 (up bp.p)), y9.2.1.put (by omega) (.int .i64 (up bp.s)) (.bool bp.k) (.int .i64 bp.n) (.int .i64 bp.lo) (.int .i64 bp.hi) (.int .i64 (up bp.p)), y9.2.2.1.put (by omega) (.int .i64 (up bp.s)) (.bool bp.k) (.int .i64 bp.n) (.int .i64 bp.lo) (.int .i64 bp.hi) (.int .i64 (up bp.p)), zb.wrote (up bp.s) bp.k bp.n bp.lo bp.hi (up bp.p), y9.2.2.2.1.puto (by omega) (.int .i64 (up bp.s)) (.bool bp.k) (.int .i64 bp.n) (.int .i64 bp.lo) (.int .i64 bp.hi) (.int .i64 (up bp.p)), y9.2.2.2.2.1.put (up bp.s) bp.k bp.n bp.lo bp.hi (up bp.p), st6_below y9.2.2.2.2.2 _ (by omega) (.int .i64 (up bp.s)) (.bool bp.k) (.int .i64 bp.n) (.int .i64 bp.lo) (.int .i64 bp.hi) (.int .i64 (up bp.p))⟩
        clear hW hK zb zf R14 cQ a0 a1 a2 a3 a4 a5 c0 c1 c2 c3 c4 c5 f0 f1 f2 f3 f4 f5
        have HCL : Hid (∀ a b : World, (a.cell? ⟨k7, 0, none⟩ = some (.int .i64 (up bp.s)) ∧ a.cell? ⟨k7, 1, none⟩ = some (.bool bp.k) ∧ a.cell? ⟨k7, 2, none⟩ = some (.int .i64 bp.n) ∧ a.cell? ⟨k7, 3, none⟩ = some (.int .i64 bp.lo) ∧ a.cell? ⟨k7, 4, none⟩ = some (.int .i64 bp.hi) ∧ a.cell? ⟨k7, 5, none⟩ = some (.int .i64 (up bp.p)) ∧ a.cell? ⟨k9, 0, none⟩ = some (.int .i64 (up bp.s)) ∧ a.cell? ⟨k9, 1, none⟩ = some (.bool bp.k) ∧ a.cell? ⟨k9, 2, none⟩ = some (.int .i64 bp.n) ∧ a.cell? ⟨k9, 3, none⟩ = some (.int .i64 bp.lo) ∧ a.cell? ⟨k9, 4, none⟩ = some (.int .i64 bp.hi) ∧ a.cell? ⟨k9, 5, none⟩ = some (.int .i64 (up bp.p)) ∧ Hid (Br a N (up X.s) X.k X.n X.lo X.hi (up X.p) ∧ Br a (N + 1) (up Y.s) Y.k Y.n Y.lo Y.hi (up Y.p) ∧ Br a k7 (up bp.s) bp.k bp.n bp.lo bp.hi (up bp.p) ∧ Br a k9 (up bp.s) bp.k bp.n bp.lo bp.hi (up bp.p) ∧ Rw a k7 ∧ Rw a k9 ∧ Below N w a)) → Below a.heap.size a b → (b.cell? ⟨k7, 0, none⟩ = some (.int .i64 (up bp.s)) ∧ b.cell? ⟨k7, 1, none⟩ = some (.bool bp.k) ∧ b.cell? ⟨k7, 2, none⟩ = some (.int .i64 bp.n) ∧ b.cell? ⟨k7, 3, none⟩ = some (.int .i64 bp.lo) ∧ b.cell? ⟨k7, 4, none⟩ = some (.int .i64 bp.hi) ∧ b.cell? ⟨k7, 5, none⟩ = some (.int .i64 (up bp.p)) ∧ b.cell? ⟨k9, 0, none⟩ = some (.int .i64 (up bp.s)) ∧ b.cell? ⟨k9, 1, none⟩ = some (.bool bp.k) ∧ b.cell? ⟨k9, 2, none⟩ = some (.int .i64 bp.n) ∧ b.cell? ⟨k9, 3, none⟩ = some (.int .i64 bp.lo) ∧ b.cell? ⟨k9, 4, none⟩ = some (.int .i64 bp.hi) ∧ b.cell? ⟨k9, 5, none⟩ = some (.int .i64 (up bp.p)) ∧ Hid (Br b N (up X.s) X.k X.n X.lo X.hi (up X.p) ∧ Br b (N + 1) (up Y.s) Y.k Y.n Y.lo Y.hi (up Y.p) ∧ Br b k7 (up bp.s) bp.k bp.n bp.lo bp.hi (up bp.p) ∧ Br b k9 (up bp.s) bp.k bp.n bp.lo bp.hi (up bp.p) ∧ Rw b k7 ∧ Rw b k9 ∧ Below N w b))) := fun a b h hb => by
          have y9 := (h.2.2.2.2.2.2.2.2.2.2.2.2).out
          have z9 : Br b N (up X.s) X.k X.n X.lo X.hi (up X.p) ∧ Br b (N + 1) (up Y.s) Y.k Y.n Y.lo Y.hi (up Y.p) ∧ Br b k7 (up bp.s) bp.k bp.n bp.lo bp.hi (up bp.p) ∧ Br b k9 (up bp.s) bp.k bp.n bp.lo bp.hi (up bp.p) ∧ Rw b k7 ∧ Rw b k9 ∧ Below N w b := ⟨y9.1.keep hb, y9.2.1.keep hb, y9.2.2.1.keep hb, y9.2.2.2.1.keep hb, y9.2.2.2.2.1.keep hb, y9.2.2.2.2.2.1.keep hb, y9.2.2.2.2.2.2.trans (hb.mono (Nat.le_of_lt y9.1.lt))⟩
          exact ⟨z9.2.2.1.c0, z9.2.2.1.c1, z9.2.2.1.c2, z9.2.2.1.c3, z9.2.2.1.c4, z9.2.2.1.c5, z9.2.2.2.1.c0, z9.2.2.2.1.c1, z9.2.2.2.1.c2, z9.2.2.2.1.c3, z9.2.2.2.1.c4, z9.2.2.2.1.c5, z9⟩
        have hS0 : W15.cell? ⟨k7, 0, none⟩ = some (.int .i64 (up bp.s)) ∧ W15.cell? ⟨k7, 1, none⟩ = some (.bool bp.k) ∧ W15.cell? ⟨k7, 2, none⟩ = some (.int .i64 bp.n) ∧ W15.cell? ⟨k7, 3, none⟩ = some (.int .i64 bp.lo) ∧ W15.cell? ⟨k7, 4, none⟩ = some (.int .i64 bp.hi) ∧ W15.cell? ⟨k7, 5, none⟩ = some (.int .i64 (up bp.p)) ∧ W15.cell? ⟨k9, 0, none⟩ = some (.int .i64 (up bp.s)) ∧ W15.cell? ⟨k9, 1, none⟩ = some (.bool bp.k) ∧ W15.cell? ⟨k9, 2, none⟩ = some (.int .i64 bp.n) ∧ W15.cell? ⟨k9, 3, none⟩ = some (.int .i64 bp.lo) ∧ W15.cell? ⟨k9, 4, none⟩ = some (.int .i64 bp.hi) ∧ W15.cell? ⟨k9, 5, none⟩ = some (.int .i64 (up bp.p)) ∧ Hid (Br W15 N (up X.s) X.k X.n X.lo X.hi (up X.p) ∧ Br W15 (N + 1) (up Y.s) Y.k Y.n Y.lo Y.hi (up Y.p) ∧ Br W15 k7 (up bp.s) bp.k bp.n bp.lo bp.hi (up bp.p) ∧ Br W15 k9 (up bp.s) bp.k bp.n bp.lo bp.hi (up bp.p) ∧ Rw W15 k7 ∧ Rw W15 k9 ∧ Below N w W15) := ⟨R15.out.2.2.1.c0, R15.out.2.2.1.c1, R15.out.2.2.1.c2, R15.out.2.2.1.c3, R15.out.2.2.1.c4, R15.out.2.2.1.c5, R15.out.2.2.2.1.c0, R15.out.2.2.2.1.c1, R15.out.2.2.2.1.c2, R15.out.2.2.2.1.c3, R15.out.2.2.2.1.c4, R15.out.2.2.2.1.c5, R15.out⟩
        clear R15
        refine wp_region_held_drew (S := fun w' => w'.cell? ⟨k7, 0, none⟩ = some (.int .i64 (up bp.s)) ∧ w'.cell? ⟨k7, 1, none⟩ = some (.bool bp.k) ∧ w'.cell? ⟨k7, 2, none⟩ = some (.int .i64 bp.n) ∧ w'.cell? ⟨k7, 3, none⟩ = some (.int .i64 bp.lo) ∧ w'.cell? ⟨k7, 4, none⟩ = some (.int .i64 bp.hi) ∧ w'.cell? ⟨k7, 5, none⟩ = some (.int .i64 (up bp.p)) ∧ w'.cell? ⟨k9, 0, none⟩ = some (.int .i64 (up bp.s)) ∧ w'.cell? ⟨k9, 1, none⟩ = some (.bool bp.k) ∧ w'.cell? ⟨k9, 2, none⟩ = some (.int .i64 bp.n) ∧ w'.cell? ⟨k9, 3, none⟩ = some (.int .i64 bp.lo) ∧ w'.cell? ⟨k9, 4, none⟩ = some (.int .i64 bp.hi) ∧ w'.cell? ⟨k9, 5, none⟩ = some (.int .i64 (up bp.p)) ∧ Hid (Br w' N (up X.s) X.k X.n X.lo X.hi (up X.p) ∧ Br w' (N + 1) (up Y.s) Y.k Y.n Y.lo Y.hi (up Y.p) ∧ Br w' k7 (up bp.s) bp.k bp.n bp.lo bp.hi (up bp.p) ∧ Br w' k9 (up bp.s) bp.k bp.n bp.lo bp.hi (up bp.p) ∧ Rw w' k7 ∧ Rw w' k9 ∧ Below N w w')) (by kernel_rfl) (HCL.out _ _ hS0 ((Below.refl _ _).drew)) (fun hHeld => ?_)
        refine wpAnyH_take (i := 0) (oi := ({ dst := some 86, op := Op.load 32 (Operand.tmp 7), type := 32, pos := "law.go:57", after := #[], guard := none } : Oper)) (v := ?_) rfl (by kernel_rfl) (by kernel_rfl) (by kernel_rfl) (fun _ _ _ h => h) (Or.inl ⟨by rfl, ?_⟩) (by assumption) ?_
        rotate_left
        · (intro wz hSw; (try dsimp only at hSw); go_simp; try with_reducible rfl)
        simp only [Act.put, List.setIfInBounds_toArray, List.set_cons_zero, List.set_cons_succ]
        refine wpAnyH_take (i := 2) (oi := ({ dst := some 88, op := Op.load 27 (Operand.tmp 9), type := 27, pos := "law.go:57", after := #[], guard := none } : Oper)) (v := ?_) rfl (by kernel_rfl) (by kernel_rfl) (by kernel_rfl) (fun _ _ _ h => h) (Or.inl ⟨by rfl, ?_⟩) (by assumption) ?_
        rotate_left
        · (intro wz hSw; (try dsimp only at hSw); go_simp; try with_reducible rfl)
        simp only [Act.put, List.setIfInBounds_toArray, List.set_cons_zero, List.set_cons_succ]
        refine wpAnyH_ready (rs := [1]) (by kernel_rfl) (by simp) ?_
        refine AllReadyH.cons (o := ({ dst := some 87, op := Op.call { callee := Callee.value (Operand.func 9), args := #[Operand.tmp 86], argTypes := #[32] }, type := 27, pos := "law.go:57", after := #[{ on := 0, ground := Ground.data }], guard := none } : Oper)) rfl (fun K hK => ?_) AllReadyH.nil
        go_simp
        go_at_call 9
        refine (lift (from_V _ _ _ _ _ _ _) (by assumption) HCL.out).mono ?_
        rintro e v1 ⟨rfl, g1⟩
        clear hHeld
        refine hK.out _ _ g1 (fun hHeld => ?_)
        clear hK K
        refine wpAnyH_take (i := 3) (oi := ({ dst := some 89, op := Op.binOp BinOp.neq 27 (Operand.tmp 87) (Operand.tmp 88) 27, type := 4, pos := "law.go:57", after := #[{ on := 1, ground := Ground.data }, { on := 2, ground := Ground.data }], guard := none } : Oper)) (v := ?_) rfl (by kernel_rfl) (by kernel_rfl) (by kernel_rfl) (fun _ _ _ h => h) (Or.inl ⟨by rfl, ?_⟩) (by assumption) ?_
        rotate_left
        · (intro wz hSw; (try dsimp only at hSw); go_simp; try with_reducible rfl)
        simp only [Act.put, List.setIfInBounds_toArray, List.set_cons_zero, List.set_cons_succ]
        refine wpAnyH_take (i := 4) (oi := ({ dst := some 90, op := Op.move (Operand.tmp 89), type := 4, pos := "law.go:57", after := #[{ on := 3, ground := Ground.data }, { on := 1, ground := Ground.chain }], guard := none } : Oper)) (v := ?_) rfl (by kernel_rfl) (by kernel_rfl) (by kernel_rfl) (fun _ _ _ h => h) (Or.inl ⟨by rfl, ?_⟩) (by assumption) ?_
        rotate_left
        · (intro wz hSw; (try dsimp only at hSw); go_simp; try with_reducible rfl)
        simp only [Act.put, List.setIfInBounds_toArray, List.set_cons_zero, List.set_cons_succ]
        refine wpAnyH_take (i := 5) (oi := ({ dst := some 91, op := Op.move (Operand.tmp 8), type := 4, pos := "law.go:57", after := #[{ on := 4, ground := Ground.guard }], guard := some (4, false) } : Oper)) (v := ?_) rfl (by kernel_rfl) (by kernel_rfl) (by kernel_rfl) (fun _ _ _ h => h) (Or.inl ⟨by rfl, ?_⟩) (by assumption) ?_
        rotate_left
        · (intro wz hSw; (try dsimp only at hSw); go_simp; try with_reducible rfl)
        simp only [Act.put, List.setIfInBounds_toArray, List.set_cons_zero, List.set_cons_succ]
        refine wpAnyH_take (i := 6) (oi := ({ dst := some 92, op := Op.move (Operand.tmp 10), type := 4, pos := "law.go:57", after := #[{ on := 4, ground := Ground.guard }], guard := some (4, false) } : Oper)) (v := ?_) rfl (by kernel_rfl) (by kernel_rfl) (by kernel_rfl) (fun _ _ _ h => h) (Or.inl ⟨by rfl, ?_⟩) (by assumption) ?_
        rotate_left
        · (intro wz hSw; (try dsimp only at hSw); go_simp; try with_reducible rfl)
        simp only [Act.put, List.setIfInBounds_toArray, List.set_cons_zero, List.set_cons_succ]
        refine wpAnyH_take (i := 7) (oi := ({ dst := some 93, op := Op.binOp BinOp.neq 4 (Operand.tmp 91) (Operand.tmp 92) 4, type := 4, pos := "law.go:57", after := #[{ on := 5, ground := Ground.data }, { on := 6, ground := Ground.data }, { on := 4, ground := Ground.guard }], guard := some (4, false) } : Oper)) (v := ?_) rfl (by kernel_rfl) (by kernel_rfl) (by kernel_rfl) (fun _ _ _ h => h) (Or.inl ⟨by rfl, ?_⟩) (by assumption) ?_
        rotate_left
        · (intro wz hSw; (try dsimp only at hSw); go_simp; try with_reducible rfl)
        simp only [Act.put, List.setIfInBounds_toArray, List.set_cons_zero, List.set_cons_succ]
        refine wpAnyH_take (i := 8) (oi := ({ dst := some 94, op := Op.pick (Operand.tmp 90) (Operand.const (Value.bool true)) (Operand.tmp 93), type := 4, pos := "law.go:57", after := #[{ on := 4, ground := Ground.data }, { on := 7, ground := Ground.data }], guard := none } : Oper)) (v := ?_) rfl (by kernel_rfl) (by kernel_rfl) (by kernel_rfl) (fun _ _ _ h => h) (Or.inl ⟨by rfl, ?_⟩) (by assumption) ?_
        rotate_left
        · (intro wz hSw; (try dsimp only at hSw); go_simp; try with_reducible rfl)
        simp only [Act.put, List.setIfInBounds_toArray, List.set_cons_zero, List.set_cons_succ]
        refine wpAnyH_done (by kernel_rfl) ?_ _
        have R16 : Hid (Br v1 N (up X.s) X.k X.n X.lo X.hi (up X.p) ∧ Br v1 (N + 1) (up Y.s) Y.k Y.n Y.lo Y.hi (up Y.p) ∧ Br v1 k7 (up bp.s) bp.k bp.n bp.lo bp.hi (up bp.p) ∧ Br v1 k9 (up bp.s) bp.k bp.n bp.lo bp.hi (up bp.p) ∧ Rw v1 k7 ∧ Rw v1 k9 ∧ Below N w v1) := hide (g1.2.2.2.2.2.2.2.2.2.2.2.2).out
        clear hS0 HCL hHeld g1
        go_wp2_with fail
        go_round
        case rel => exact ⟨2, by omega, rfl, ⟨R16.out.1, R16.out.2.1, R16.out.2.2.2.2.1, R16.out.2.2.2.2.2.1, R16.out.2.2.2.2.2.2⟩⟩
        case measure => simp [intOf]
      · go_wp2_with fail
        go_ret
        exact ⟨rfl, by rw [← HN.out]; exact RA.out.2.2.2.2⟩
end Go.Proofs.YthiacdbjlkpfgaaGreatDoor
