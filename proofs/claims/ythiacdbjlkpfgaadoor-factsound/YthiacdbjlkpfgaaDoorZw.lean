import Derived.Test.YthiacdbjlkpfgaaDoorZs
namespace Go.Proofs.YthiacdbjlkpfgaaDoor
open Go.RowKit
set_option maxRecDepth 100000 in
set_option maxHeartbeats 32000000 in
theorem fsound_walk (op x y : Int) (A B : R) (w : World) (G : GlobS w) (GP : GlobP w) (hx : i64 x) (hy : i64 y) (hA : A.fit) (hB : B.fit) : Calls Tryd.prog 3 #[.int .i64 op, .agg #[.int .i64 x, .int .i64 y], .agg #[.int .i64 A.s, .bool A.k, .int .i64 A.n, .int .i64 A.lo, .int .i64 A.hi, .int .i64 A.p, .int .i64 B.s, .bool B.k, .int .i64 B.n, .int .i64 B.lo, .int .i64 B.hi, .int .i64 B.p]] w fun e w' => e = .returned (.bool true) ∧ Below w.heap.size w w' := by
  have cA := fun w => about_V A x w hA hx
  have cB := fun w => about_V B y w hB hy
  have oX := join_ok _ _ (R.ok hA) (of_ok x hx)
  have oY := join_ok _ _ (R.ok hB) (of_ok y hy)
  have iX := about_has A.v x
  have iY := about_has B.v y
  generalize joinV A.v (ofV x) = X at *
  generalize joinV B.v (ofV y) = Y at *
  have cT := fun w G P => two_V op X Y w oX oY G P
  have c3 := fun w => one_V 3 X w oX.sp
  have c2 := fun w => one_V 2 X w oX.sp
  have cb := fun w => branch_V X (x != 0) w
  have f3 := neg_soundV x X oX hx iX
  have f2 := move_soundV x X oX iX
  have fb := branch_soundV x X oX iX
  have fT := two_soundV op x y X Y oX oY hx hy iX iY
  have ca := fun w => arith_ref op x y w hx hy
  generalize oneV 3 X = O3 at *
  generalize oneV 2 X = O2 at *
  generalize branchV X (x != 0) = OB at *
  generalize twoV op X Y = T at *
  generalize arith op x y = ar at *
  obtain ⟨o3, i3⟩ := O3
  obtain ⟨o2, i2⟩ := O2
  obtain ⟨ob, ib⟩ := OB
  obtain ⟨tv, is⟩ := T
  obtain ⟨n, ok⟩ := ar
  dsimp only at f3 f2 fb fT c3 c2 cb cT ca
  obtain ⟨rfl, f3⟩ := f3
  obtain ⟨rfl, f2⟩ := f2
  obtain ⟨rfl, fb⟩ := fb
  have g3 := fun w => has_V o3 (wrap64 (-x)) w
  have g2 := fun w => has_V o2 x w
  have gb := fun w => has_V ob x w
  have gT := fun w => has_V tv n w
  rw [f3] at g3
  rw [f2] at g2
  rw [fb] at gb
  clear f3 f2 fb iX iY oX oY hA hB hx hy
  generalize hasV tv n = ht at *
  have z0 : ∀ nq, Bv (((w.alloc (.cells #[.int .i64 x, .int .i64 y] 22)).alloc (.cells #[.int .i64 A.s, .bool A.k, .int .i64 A.n, .int .i64 A.lo, .int .i64 A.hi, .int .i64 A.p, .int .i64 B.s, .bool B.k, .int .i64 B.n, .int .i64 B.lo, .int .i64 B.hi, .int .i64 B.p] 29)).drewN nq) (w.heap.size + 1) A B := fun nq => (by simpa using Bv.new (w.alloc (.cells #[.int .i64 x, .int .i64 y] 22)) A B 29 : Bv ((w.alloc (.cells #[.int .i64 x, .int .i64 y] 22)).alloc (.cells #[.int .i64 A.s, .bool A.k, .int .i64 A.n, .int .i64 A.lo, .int .i64 A.hi, .int .i64 A.p, .int .i64 B.s, .bool B.k, .int .i64 B.n, .int .i64 B.lo, .int .i64 B.hi, .int .i64 B.p] 29)) (w.heap.size + 1) A B).keep (below_drewN (Below.refl _ _) nq)
  have zb : ∀ nq, Below w.heap.size w (((w.alloc (.cells #[.int .i64 x, .int .i64 y] 22)).alloc (.cells #[.int .i64 A.s, .bool A.k, .int .i64 A.n, .int .i64 A.lo, .int .i64 A.hi, .int .i64 A.p, .int .i64 B.s, .bool B.k, .int .i64 B.n, .int .i64 B.lo, .int .i64 B.hi, .int .i64 B.p] 29)).drewN nq) := fun nq => (by repeat (first | exact Below.refl _ _ | (refine Below.drew ?_) | (refine below_drewN ?_ _) | (refine Below.setCell ?_ (by first | omega | (simp; done) | (simp; omega)) _) | (refine Below.alloc ?_ (by first | omega | (simp; done) | (simp; omega)) _) | (refine Below.trans ?_ (Below.mono (by assumption) (by first | omega | (simp; done) | (simp; omega))))))
  have HG := hide (And.intro G GP)
  clear G GP
  go_enter Tryd.func3, Tryd.ntmps3
  go_wp2
  go_quiet (fail)
  go_upto_region 2 with fail
  have x0 := z0 nq
  have xb := zb nq
  clear z0 zb
  go_name_world W hW
  rw [hW] at x0 xb
  clear hW
  obtain ⟨N, hN⟩ : ∃ N, N = w.heap.size := ⟨_, rfl⟩
  rw [← hN] at x0 xb ⊢
  have HN : Hid (N = w.heap.size) := hN
  clear hN
  refine sf_region _ (fun _ _ d _ _ h => by cases d <;> exact h) op x y A B X Y N w cA cB ?_ W ⟨x0, xb⟩
  clear cA cB x0 xb W
  intro v k9 k10 K9 K10 hS
  dsimp only [sfAct]
  have H0 : Hid (Br v k9 (up X.s) X.k X.n X.lo X.hi (up X.p) ∧ Br v k10 (up Y.s) Y.k Y.n Y.lo Y.hi (up Y.p) ∧ Below N w v ∧ N ≤ v.heap.size) := ⟨K9, K10, hS.2, Nat.le_of_lt (Nat.lt_of_succ_lt (Nat.lt_of_le_of_lt (Nat.le_refl _) hS.1.lt))⟩
  have gS := globS_of HN.out HG.out.1 hS.2
  have gP := globP_of HN.out HG.out.2 hS.2
  clear K9 K10 hS
  have zk9_0 := H0.out.1.c0
  have zk9_1 := H0.out.1.c1
  have zk9_2 := H0.out.1.c2
  have zk9_3 := H0.out.1.c3
  have zk9_4 := H0.out.1.c4
  have zk9_5 := H0.out.1.c5
  have zk10_0 := H0.out.2.1.c0
  have zk10_1 := H0.out.2.1.c1
  have zk10_2 := H0.out.2.1.c2
  have zk10_3 := H0.out.2.1.c3
  have zk10_4 := H0.out.2.1.c4
  have zk10_5 := H0.out.2.1.c5
  go_upto_region 4 with (go_at_call 6; refine (ca _).mono ?_; rintro e w' ⟨rfl, h⟩; obtain rfl := h.symm)
  go_upto_region 5 with (go_at_call 7; refine (cT _ gS gP).mono ?_; rintro e wK ⟨rfl, hK⟩)
  go_name_world W5 hW
  have H4 : Hid (Br W5 k9 (up X.s) X.k X.n X.lo X.hi (up X.p) ∧ Br W5 k10 (up Y.s) Y.k Y.n Y.lo Y.hi (up Y.p) ∧ Br W5 wK.heap.size (up tv.s) tv.k tv.n tv.lo tv.hi (up tv.p) ∧ Below N w W5 ∧ N ≤ W5.heap.size) := by
    rw [← hW]
    have u := H0.out.2.2.1.trans (hK.mono H0.out.2.2.2)
    have l := Nat.le_trans H0.out.2.2.2 hK.size
    exact ⟨(H0.out.1.keep hK).keep ((Below.refl _ _).alloc (Nat.le_refl _) _), (H0.out.2.1.keep hK).keep ((Below.refl _ _).alloc (Nat.le_refl _) _), Br.new _ _ _ _ _ _ _ _, u.alloc l _, by simp; omega⟩
  clear hW hK H0 zk9_0 zk9_1 zk9_2 zk9_3 zk9_4 zk9_5 zk10_0 zk10_1 zk10_2 zk10_3 zk10_4 zk10_5 cT gS gP ca
  generalize wK.heap.size = k13 at *
  have zk9_0 := H4.out.1.c0
  have zk9_1 := H4.out.1.c1
  have zk9_2 := H4.out.1.c2
  have zk9_3 := H4.out.1.c3
  have zk9_4 := H4.out.1.c4
  have zk9_5 := H4.out.1.c5
  have zk10_0 := H4.out.2.1.c0
  have zk10_1 := H4.out.2.1.c1
  have zk10_2 := H4.out.2.1.c2
  have zk10_3 := H4.out.2.1.c3
  have zk10_4 := H4.out.2.1.c4
  have zk10_5 := H4.out.2.1.c5
  have zk13_0 := H4.out.2.2.1.c0
  have zk13_1 := H4.out.2.2.1.c1
  have zk13_2 := H4.out.2.2.1.c2
  have zk13_3 := H4.out.2.2.1.c3
  have zk13_4 := H4.out.2.2.1.c4
  have zk13_5 := H4.out.2.2.1.c5
  go_cut [61] (fun v61 wy => v61 = .bool false ∧ Hid (Br wy k9 (up X.s) X.k X.n X.lo X.hi (up X.p) ∧ Br wy k10 (up Y.s) Y.k Y.n Y.lo Y.hi (up Y.p) ∧ Br wy k13 (up tv.s) tv.k tv.n tv.lo tv.hi (up tv.p) ∧ Below N w wy ∧ N ≤ wy.heap.size))
  case first =>
    cases ok
    · clear fT gT
      go_wp2_with (go_at_call 8; refine (told_any _).mono ?_; rintro e w1 ⟨rfl, hb1⟩; have HZ := hide (And.intro (H4.out.1.keep hb1) (And.intro (H4.out.2.1.keep hb1) (And.intro (H4.out.2.2.1.keep hb1) (And.intro (H4.out.2.2.2.1.trans (hb1.mono H4.out.2.2.2.2)) (Nat.le_trans H4.out.2.2.2.2 hb1.size))))); clear hb1 H4 zk9_0 zk9_1 zk9_2 zk9_3 zk9_4 zk9_5 zk10_0 zk10_1 zk10_2 zk10_3 zk10_4 zk10_5 zk13_0 zk13_1 zk13_2 zk13_3 zk13_4 zk13_5 ; have H4 := HZ; clear HZ; have zk9_0 := H4.out.1.c0; have zk9_1 := H4.out.1.c1; have zk9_2 := H4.out.1.c2; have zk9_3 := H4.out.1.c3; have zk9_4 := H4.out.1.c4; have zk9_5 := H4.out.1.c5; have zk10_0 := H4.out.2.1.c0; have zk10_1 := H4.out.2.1.c1; have zk10_2 := H4.out.2.1.c2; have zk10_3 := H4.out.2.1.c3; have zk10_4 := H4.out.2.1.c4; have zk10_5 := H4.out.2.1.c5; have zk13_0 := H4.out.2.2.1.c0; have zk13_1 := H4.out.2.2.1.c1; have zk13_2 := H4.out.2.2.1.c2; have zk13_3 := H4.out.2.2.1.c3; have zk13_4 := H4.out.2.2.1.c4; have zk13_5 := H4.out.2.2.1.c5)
      go_meet
      case rel => exact ⟨rfl, H4.out⟩
    · obtain ⟨rfl, rfl⟩ := fT rfl
      go_wp2_with (first | (go_at_call 8; refine (told_any _).mono ?_; rintro e w1 ⟨rfl, hb1⟩; have HZ := hide (And.intro (H4.out.1.keep hb1) (And.intro (H4.out.2.1.keep hb1) (And.intro (H4.out.2.2.1.keep hb1) (And.intro (H4.out.2.2.2.1.trans (hb1.mono H4.out.2.2.2.2)) (Nat.le_trans H4.out.2.2.2.2 hb1.size))))); clear hb1 H4 zk9_0 zk9_1 zk9_2 zk9_3 zk9_4 zk9_5 zk10_0 zk10_1 zk10_2 zk10_3 zk10_4 zk10_5 zk13_0 zk13_1 zk13_2 zk13_3 zk13_4 zk13_5 ; have H4 := HZ; clear HZ; have zk9_0 := H4.out.1.c0; have zk9_1 := H4.out.1.c1; have zk9_2 := H4.out.1.c2; have zk9_3 := H4.out.1.c3; have zk9_4 := H4.out.1.c4; have zk9_5 := H4.out.1.c5; have zk10_0 := H4.out.2.1.c0; have zk10_1 := H4.out.2.1.c1; have zk10_2 := H4.out.2.1.c2; have zk10_3 := H4.out.2.1.c3; have zk10_4 := H4.out.2.1.c4; have zk10_5 := H4.out.2.1.c5; have zk13_0 := H4.out.2.2.1.c0; have zk13_1 := H4.out.2.2.1.c1; have zk13_2 := H4.out.2.2.1.c2; have zk13_3 := H4.out.2.2.1.c3; have zk13_4 := H4.out.2.2.1.c4; have zk13_5 := H4.out.2.2.1.c5) | (go_at_call 9; refine (gT _).mono ?_; rintro e w1 ⟨rfl, hb1⟩; have HZ := hide (And.intro (H4.out.1.keep hb1) (And.intro (H4.out.2.1.keep hb1) (And.intro (H4.out.2.2.1.keep hb1) (And.intro (H4.out.2.2.2.1.trans (hb1.mono H4.out.2.2.2.2)) (Nat.le_trans H4.out.2.2.2.2 hb1.size))))); clear hb1 H4 zk9_0 zk9_1 zk9_2 zk9_3 zk9_4 zk9_5 zk10_0 zk10_1 zk10_2 zk10_3 zk10_4 zk10_5 zk13_0 zk13_1 zk13_2 zk13_3 zk13_4 zk13_5 gT; have H4 := HZ; clear HZ; have zk9_0 := H4.out.1.c0; have zk9_1 := H4.out.1.c1; have zk9_2 := H4.out.1.c2; have zk9_3 := H4.out.1.c3; have zk9_4 := H4.out.1.c4; have zk9_5 := H4.out.1.c5; have zk10_0 := H4.out.2.1.c0; have zk10_1 := H4.out.2.1.c1; have zk10_2 := H4.out.2.1.c2; have zk10_3 := H4.out.2.1.c3; have zk10_4 := H4.out.2.1.c4; have zk10_5 := H4.out.2.1.c5; have zk13_0 := H4.out.2.2.1.c0; have zk13_1 := H4.out.2.2.1.c1; have zk13_2 := H4.out.2.2.1.c2; have zk13_3 := H4.out.2.2.1.c3; have zk13_4 := H4.out.2.2.1.c4; have zk13_5 := H4.out.2.2.1.c5))
      go_meet
      case rel => exact ⟨rfl, H4.out⟩
  case rest =>
    obtain ⟨rfl, H5⟩ := hcut
    clear H4 fT gT
    go_upto_region 7 with fail
    have zk9_0 := H5.out.1.c0
    have zk9_1 := H5.out.1.c1
    have zk9_2 := H5.out.1.c2
    have zk9_3 := H5.out.1.c3
    have zk9_4 := H5.out.1.c4
    have zk9_5 := H5.out.1.c5
    go_upto_region 8 with (go_at_call 10; refine (c3 _).mono ?_; rintro e wK ⟨rfl, hK⟩)
    go_name_world W8 hW
    have H7 : Hid (Br W8 k9 (up X.s) X.k X.n X.lo X.hi (up X.p) ∧ Br W8 k10 (up Y.s) Y.k Y.n Y.lo Y.hi (up Y.p) ∧ Br W8 k13 (up tv.s) tv.k tv.n tv.lo tv.hi (up tv.p) ∧ Br W8 wK.heap.size (up o3.s) o3.k o3.n o3.lo o3.hi (up o3.p) ∧ Below N w W8 ∧ N ≤ W8.heap.size) := by
      rw [← hW]
      have u := H5.out.2.2.2.1.trans (hK.mono H5.out.2.2.2.2)
      have l := Nat.le_trans H5.out.2.2.2.2 hK.size
      exact ⟨(H5.out.1.keep hK).keep ((Below.refl _ _).alloc (Nat.le_refl _) _), (H5.out.2.1.keep hK).keep ((Below.refl _ _).alloc (Nat.le_refl _) _), (H5.out.2.2.1.keep hK).keep ((Below.refl _ _).alloc (Nat.le_refl _) _), Br.new _ _ _ _ _ _ _ _, u.alloc l _, by simp; omega⟩
    clear hW hK H5 zk9_0 zk9_1 zk9_2 zk9_3 zk9_4 zk9_5 c3
    generalize wK.heap.size = k15 at *
    have zk9_0 := H7.out.1.c0
    have zk9_1 := H7.out.1.c1
    have zk9_2 := H7.out.1.c2
    have zk9_3 := H7.out.1.c3
    have zk9_4 := H7.out.1.c4
    have zk9_5 := H7.out.1.c5
    go_upto_region 9 with (go_at_call 10; refine (c2 _).mono ?_; rintro e wK ⟨rfl, hK⟩)
    go_name_world W9 hW
    have H8 : Hid (Br W9 k9 (up X.s) X.k X.n X.lo X.hi (up X.p) ∧ Br W9 k10 (up Y.s) Y.k Y.n Y.lo Y.hi (up Y.p) ∧ Br W9 k13 (up tv.s) tv.k tv.n tv.lo tv.hi (up tv.p) ∧ Br W9 k15 (up o3.s) o3.k o3.n o3.lo o3.hi (up o3.p) ∧ Br W9 wK.heap.size (up o2.s) o2.k o2.n o2.lo o2.hi (up o2.p) ∧ Below N w W9 ∧ N ≤ W9.heap.size) := by
      rw [← hW]
      have u := H7.out.2.2.2.2.1.trans (hK.mono H7.out.2.2.2.2.2)
      have l := Nat.le_trans H7.out.2.2.2.2.2 hK.size
      exact ⟨(H7.out.1.keep hK).keep ((Below.refl _ _).alloc (Nat.le_refl _) _), (H7.out.2.1.keep hK).keep ((Below.refl _ _).alloc (Nat.le_refl _) _), (H7.out.2.2.1.keep hK).keep ((Below.refl _ _).alloc (Nat.le_refl _) _), (H7.out.2.2.2.1.keep hK).keep ((Below.refl _ _).alloc (Nat.le_refl _) _), Br.new _ _ _ _ _ _ _ _, u.alloc l _, by simp; omega⟩
    clear hW hK H7 zk9_0 zk9_1 zk9_2 zk9_3 zk9_4 zk9_5 c2
    generalize wK.heap.size = k17 at *
    have zk9_0 := H8.out.1.c0
    have zk9_1 := H8.out.1.c1
    have zk9_2 := H8.out.1.c2
    have zk9_3 := H8.out.1.c3
    have zk9_4 := H8.out.1.c4
    have zk9_5 := H8.out.1.c5
    go_upto_region 10 with (go_at_call 11; refine (cb _).mono ?_; rintro e wK ⟨rfl, hK⟩)
    go_name_world W10 hW
    have H9 : Hid (Br W10 k9 (up X.s) X.k X.n X.lo X.hi (up X.p) ∧ Br W10 k10 (up Y.s) Y.k Y.n Y.lo Y.hi (up Y.p) ∧ Br W10 k13 (up tv.s) tv.k tv.n tv.lo tv.hi (up tv.p) ∧ Br W10 k15 (up o3.s) o3.k o3.n o3.lo o3.hi (up o3.p) ∧ Br W10 k17 (up o2.s) o2.k o2.n o2.lo o2.hi (up o2.p) ∧ Br W10 wK.heap.size (up ob.s) ob.k ob.n ob.lo ob.hi (up ob.p) ∧ Below N w W10 ∧ N ≤ W10.heap.size) := by
      rw [← hW]
      have u := H8.out.2.2.2.2.2.1.trans (hK.mono H8.out.2.2.2.2.2.2)
      have l := Nat.le_trans H8.out.2.2.2.2.2.2 hK.size
      exact ⟨(H8.out.1.keep hK).keep ((Below.refl _ _).alloc (Nat.le_refl _) _), (H8.out.2.1.keep hK).keep ((Below.refl _ _).alloc (Nat.le_refl _) _), (H8.out.2.2.1.keep hK).keep ((Below.refl _ _).alloc (Nat.le_refl _) _), (H8.out.2.2.2.1.keep hK).keep ((Below.refl _ _).alloc (Nat.le_refl _) _), (H8.out.2.2.2.2.1.keep hK).keep ((Below.refl _ _).alloc (Nat.le_refl _) _), Br.new _ _ _ _ _ _ _ _, u.alloc l _, by simp; omega⟩
    clear hW hK H8 zk9_0 zk9_1 zk9_2 zk9_3 zk9_4 zk9_5 cb
    generalize wK.heap.size = k19 at *
    have zk15_0 := H9.out.2.2.2.1.c0
    have zk15_1 := H9.out.2.2.2.1.c1
    have zk15_2 := H9.out.2.2.2.1.c2
    have zk15_3 := H9.out.2.2.2.1.c3
    have zk15_4 := H9.out.2.2.2.1.c4
    have zk15_5 := H9.out.2.2.2.1.c5
    have zk17_0 := H9.out.2.2.2.2.1.c0
    have zk17_1 := H9.out.2.2.2.2.1.c1
    have zk17_2 := H9.out.2.2.2.2.1.c2
    have zk17_3 := H9.out.2.2.2.2.1.c3
    have zk17_4 := H9.out.2.2.2.2.1.c4
    have zk17_5 := H9.out.2.2.2.2.1.c5
    have zk19_0 := H9.out.2.2.2.2.2.1.c0
    have zk19_1 := H9.out.2.2.2.2.2.1.c1
    have zk19_2 := H9.out.2.2.2.2.2.1.c2
    have zk19_3 := H9.out.2.2.2.2.2.1.c3
    have zk19_4 := H9.out.2.2.2.2.2.1.c4
    have zk19_5 := H9.out.2.2.2.2.2.1.c5
    go_wp2_with (first | (go_at_call 9; refine (g3 _).mono ?_; rintro e w1 ⟨rfl, hb1⟩; have HZ := hide (And.intro (H9.out.1.keep hb1) (And.intro (H9.out.2.1.keep hb1) (And.intro (H9.out.2.2.1.keep hb1) (And.intro (H9.out.2.2.2.1.keep hb1) (And.intro (H9.out.2.2.2.2.1.keep hb1) (And.intro (H9.out.2.2.2.2.2.1.keep hb1) (And.intro (H9.out.2.2.2.2.2.2.1.trans (hb1.mono H9.out.2.2.2.2.2.2.2)) (Nat.le_trans H9.out.2.2.2.2.2.2.2 hb1.size)))))))); clear hb1 H9 zk15_0 zk15_1 zk15_2 zk15_3 zk15_4 zk15_5 zk17_0 zk17_1 zk17_2 zk17_3 zk17_4 zk17_5 zk19_0 zk19_1 zk19_2 zk19_3 zk19_4 zk19_5 g3; have H9 := HZ; clear HZ; have zk15_0 := H9.out.2.2.2.1.c0; have zk15_1 := H9.out.2.2.2.1.c1; have zk15_2 := H9.out.2.2.2.1.c2; have zk15_3 := H9.out.2.2.2.1.c3; have zk15_4 := H9.out.2.2.2.1.c4; have zk15_5 := H9.out.2.2.2.1.c5; have zk17_0 := H9.out.2.2.2.2.1.c0; have zk17_1 := H9.out.2.2.2.2.1.c1; have zk17_2 := H9.out.2.2.2.2.1.c2; have zk17_3 := H9.out.2.2.2.2.1.c3; have zk17_4 := H9.out.2.2.2.2.1.c4; have zk17_5 := H9.out.2.2.2.2.1.c5; have zk19_0 := H9.out.2.2.2.2.2.1.c0; have zk19_1 := H9.out.2.2.2.2.2.1.c1; have zk19_2 := H9.out.2.2.2.2.2.1.c2; have zk19_3 := H9.out.2.2.2.2.2.1.c3; have zk19_4 := H9.out.2.2.2.2.2.1.c4; have zk19_5 := H9.out.2.2.2.2.2.1.c5) | (go_at_call 9; refine (g2 _).mono ?_; rintro e w1 ⟨rfl, hb1⟩; have HZ := hide (And.intro (H9.out.1.keep hb1) (And.intro (H9.out.2.1.keep hb1) (And.intro (H9.out.2.2.1.keep hb1) (And.intro (H9.out.2.2.2.1.keep hb1) (And.intro (H9.out.2.2.2.2.1.keep hb1) (And.intro (H9.out.2.2.2.2.2.1.keep hb1) (And.intro (H9.out.2.2.2.2.2.2.1.trans (hb1.mono H9.out.2.2.2.2.2.2.2)) (Nat.le_trans H9.out.2.2.2.2.2.2.2 hb1.size)))))))); clear hb1 H9 zk15_0 zk15_1 zk15_2 zk15_3 zk15_4 zk15_5 zk17_0 zk17_1 zk17_2 zk17_3 zk17_4 zk17_5 zk19_0 zk19_1 zk19_2 zk19_3 zk19_4 zk19_5 g2; have H9 := HZ; clear HZ; have zk15_0 := H9.out.2.2.2.1.c0; have zk15_1 := H9.out.2.2.2.1.c1; have zk15_2 := H9.out.2.2.2.1.c2; have zk15_3 := H9.out.2.2.2.1.c3; have zk15_4 := H9.out.2.2.2.1.c4; have zk15_5 := H9.out.2.2.2.1.c5; have zk17_0 := H9.out.2.2.2.2.1.c0; have zk17_1 := H9.out.2.2.2.2.1.c1; have zk17_2 := H9.out.2.2.2.2.1.c2; have zk17_3 := H9.out.2.2.2.2.1.c3; have zk17_4 := H9.out.2.2.2.2.1.c4; have zk17_5 := H9.out.2.2.2.2.1.c5; have zk19_0 := H9.out.2.2.2.2.2.1.c0; have zk19_1 := H9.out.2.2.2.2.2.1.c1; have zk19_2 := H9.out.2.2.2.2.2.1.c2; have zk19_3 := H9.out.2.2.2.2.2.1.c3; have zk19_4 := H9.out.2.2.2.2.2.1.c4; have zk19_5 := H9.out.2.2.2.2.2.1.c5) | (go_at_call 9; refine (gb _).mono ?_; rintro e w1 ⟨rfl, hb1⟩; have HZ := hide (And.intro (H9.out.1.keep hb1) (And.intro (H9.out.2.1.keep hb1) (And.intro (H9.out.2.2.1.keep hb1) (And.intro (H9.out.2.2.2.1.keep hb1) (And.intro (H9.out.2.2.2.2.1.keep hb1) (And.intro (H9.out.2.2.2.2.2.1.keep hb1) (And.intro (H9.out.2.2.2.2.2.2.1.trans (hb1.mono H9.out.2.2.2.2.2.2.2)) (Nat.le_trans H9.out.2.2.2.2.2.2.2 hb1.size)))))))); clear hb1 H9 zk15_0 zk15_1 zk15_2 zk15_3 zk15_4 zk15_5 zk17_0 zk17_1 zk17_2 zk17_3 zk17_4 zk17_5 zk19_0 zk19_1 zk19_2 zk19_3 zk19_4 zk19_5 gb; have H9 := HZ; clear HZ; have zk15_0 := H9.out.2.2.2.1.c0; have zk15_1 := H9.out.2.2.2.1.c1; have zk15_2 := H9.out.2.2.2.1.c2; have zk15_3 := H9.out.2.2.2.1.c3; have zk15_4 := H9.out.2.2.2.1.c4; have zk15_5 := H9.out.2.2.2.1.c5; have zk17_0 := H9.out.2.2.2.2.1.c0; have zk17_1 := H9.out.2.2.2.2.1.c1; have zk17_2 := H9.out.2.2.2.2.1.c2; have zk17_3 := H9.out.2.2.2.2.1.c3; have zk17_4 := H9.out.2.2.2.2.1.c4; have zk17_5 := H9.out.2.2.2.2.1.c5; have zk19_0 := H9.out.2.2.2.2.2.1.c0; have zk19_1 := H9.out.2.2.2.2.2.1.c1; have zk19_2 := H9.out.2.2.2.2.2.1.c2; have zk19_3 := H9.out.2.2.2.2.2.1.c3; have zk19_4 := H9.out.2.2.2.2.2.1.c4; have zk19_5 := H9.out.2.2.2.2.2.1.c5))
    have hB := H9.out.2.2.2.2.2.2.1
    go_ret
    exact ⟨rfl, by rw [← HN.out]; exact hB⟩
end Go.Proofs.YthiacdbjlkpfgaaDoor
