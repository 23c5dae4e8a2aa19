import Derived.Test.YthiacdbjlkpfgaaGreatDoorG05
import Derived.Test.YthiacdbjlkpfgaaGreatDoorG16
import Derived.Test.YthiacdbjlkpfgaaGreatDoorG17
import Derived.Test.YthiacdbjlkpfgaaGreatDoorG23
import Derived.Test.YthiacdbjlkpfgaaGreatDoorG15
import Derived.Test.YthiacdbjlkpfgaaGreatDoorG08
import Derived.Test.YthiacdbjlkpfgaaGreatDoorG09
import Derived.Test.YthiacdbjlkpfgaaGreatDoorG07
namespace Go.Proofs.YthiacdbjlkpfgaaGreatDoor
open Go.RowKit
set_option maxRecDepth 100000 in
set_option maxHeartbeats 16000000 in
theorem twor_12p (al ah bl bh : Int) (w : World) (ha : Sp (al, ah)) (hb : Sp (bl, bh)) : Calls Tryz.prog 40 #[.int .i64 12, .agg #[.int .i64 ((al, ah)).1, .int .i64 ((al, ah)).2], .agg #[.int .i64 ((bl, bh)).1, .int .i64 ((bl, bh)).2]] w fun e w' => e = .returned (.tuple #[.agg #[.int .i64 (sameP (al, ah) (bl, bh)).1, .int .i64 (sameP (al, ah) (bl, bh)).2], .bool true]) ∧ Below w.heap.size w w' := by
  unfold Sp at ha hb
  obtain ⟨a1, a2, a3⟩ := ha
  obtain ⟨b1, b2, b3⟩ := hb
  dsimp only at a1 a2 a3 b1 b2 b3 ⊢
  unfold sameP
  dsimp only
  clear a1 a3 b1 b3
  by_cases h1 : ah < bl
  · rw [if_pos (Or.inl h1)]
    have g1 : (al == ah && al == bl && ah == bh) = false := by
      simp only [Bool.and_eq_false_iff, beq_eq_false_iff_ne]
      omega
    by_cases h4 : al = ah
    · subst h4
      have h5 : (al == bl) = false := by rw [beq_eq_false_iff_ne]; omega
      clear g1 a2
      go_enter Tryz.func40, Tryz.ntmps40
      go_wp2_with fail
      all_goals (refine bodyPost_ret (by simp [results, Tryz.results40, go_sem]; try rfl) rfl ⟨?_, (by repeat (first | exact Below.refl _ _ | (refine Below.drew ?_) | (refine below_drewN ?_ _) | (refine Below.setCell ?_ (by first | omega | (simp; done) | (simp; omega)) _) | (refine Below.alloc ?_ (by first | omega | (simp; done) | (simp; omega)) _) | (refine Below.trans ?_ (Below.mono (by assumption) (by first | omega | (simp; done) | (simp; omega))))))⟩; first | rfl | (exfalso; omega) | skip)
    · have h5 : (al == ah) = false := by rw [beq_eq_false_iff_ne]; exact h4
      clear g1 h4
      go_enter Tryz.func40, Tryz.ntmps40
      go_wp2_with fail
      all_goals (refine bodyPost_ret (by simp [results, Tryz.results40, go_sem]; try rfl) rfl ⟨?_, (by repeat (first | exact Below.refl _ _ | (refine Below.drew ?_) | (refine below_drewN ?_ _) | (refine Below.setCell ?_ (by first | omega | (simp; done) | (simp; omega)) _) | (refine Below.alloc ?_ (by first | omega | (simp; done) | (simp; omega)) _) | (refine Below.trans ?_ (Below.mono (by assumption) (by first | omega | (simp; done) | (simp; omega))))))⟩; first | rfl | (exfalso; omega) | skip)
  · by_cases h2 : bh < al
    · rw [if_pos (Or.inr h2)]
      by_cases h4 : al = ah
      · subst h4
        have h5 : (al == bl) = false := by rw [beq_eq_false_iff_ne]; omega
        clear a2 b2
        go_enter Tryz.func40, Tryz.ntmps40
        go_wp2_with fail
        all_goals (refine bodyPost_ret (by simp [results, Tryz.results40, go_sem]; try rfl) rfl ⟨?_, (by repeat (first | exact Below.refl _ _ | (refine Below.drew ?_) | (refine below_drewN ?_ _) | (refine Below.setCell ?_ (by first | omega | (simp; done) | (simp; omega)) _) | (refine Below.alloc ?_ (by first | omega | (simp; done) | (simp; omega)) _) | (refine Below.trans ?_ (Below.mono (by assumption) (by first | omega | (simp; done) | (simp; omega))))))⟩; first | rfl | (exfalso; omega) | skip)
      · have h5 : (al == ah) = false := by rw [beq_eq_false_iff_ne]; exact h4
        clear h4 a2 b2
        go_enter Tryz.func40, Tryz.ntmps40
        go_wp2_with fail
        all_goals (refine bodyPost_ret (by simp [results, Tryz.results40, go_sem]; try rfl) rfl ⟨?_, (by repeat (first | exact Below.refl _ _ | (refine Below.drew ?_) | (refine below_drewN ?_ _) | (refine Below.setCell ?_ (by first | omega | (simp; done) | (simp; omega)) _) | (refine Below.alloc ?_ (by first | omega | (simp; done) | (simp; omega)) _) | (refine Below.trans ?_ (Below.mono (by assumption) (by first | omega | (simp; done) | (simp; omega))))))⟩; first | rfl | (exfalso; omega) | skip)
    · rw [if_neg (by omega)]
      by_cases h4 : al = ah
      · subst h4
        by_cases h6 : al = bl
        · subst h6
          by_cases h7 : al = bh
          · subst h7
            rw [if_pos ⟨rfl, rfl, rfl⟩]
            clear h1 h2 a2 b2
            go_enter Tryz.func40, Tryz.ntmps40
            go_wp2_with fail
            all_goals (refine bodyPost_ret (by simp [results, Tryz.results40, go_sem]; try rfl) rfl ⟨?_, (by repeat (first | exact Below.refl _ _ | (refine Below.drew ?_) | (refine below_drewN ?_ _) | (refine Below.setCell ?_ (by first | omega | (simp; done) | (simp; omega)) _) | (refine Below.alloc ?_ (by first | omega | (simp; done) | (simp; omega)) _) | (refine Below.trans ?_ (Below.mono (by assumption) (by first | omega | (simp; done) | (simp; omega))))))⟩; first | rfl | (exfalso; omega) | skip)
          · rw [if_neg (fun t => h7 t.2.2)]
            have h5 : (al == bh) = false := by rw [beq_eq_false_iff_ne]; exact h7
            clear a2 b2 h7
            go_enter Tryz.func40, Tryz.ntmps40
            go_wp2_with fail
            all_goals (refine bodyPost_ret (by simp [results, Tryz.results40, go_sem]; try rfl) rfl ⟨?_, (by repeat (first | exact Below.refl _ _ | (refine Below.drew ?_) | (refine below_drewN ?_ _) | (refine Below.setCell ?_ (by first | omega | (simp; done) | (simp; omega)) _) | (refine Below.alloc ?_ (by first | omega | (simp; done) | (simp; omega)) _) | (refine Below.trans ?_ (Below.mono (by assumption) (by first | omega | (simp; done) | (simp; omega))))))⟩; first | rfl | (exfalso; omega) | skip)
        · rw [if_neg (fun t => h6 t.2.1)]
          have h5 : (al == bl) = false := by rw [beq_eq_false_iff_ne]; exact h6
          clear a2 b2 h6
          go_enter Tryz.func40, Tryz.ntmps40
          go_wp2_with fail
          all_goals (refine bodyPost_ret (by simp [results, Tryz.results40, go_sem]; try rfl) rfl ⟨?_, (by repeat (first | exact Below.refl _ _ | (refine Below.drew ?_) | (refine below_drewN ?_ _) | (refine Below.setCell ?_ (by first | omega | (simp; done) | (simp; omega)) _) | (refine Below.alloc ?_ (by first | omega | (simp; done) | (simp; omega)) _) | (refine Below.trans ?_ (Below.mono (by assumption) (by first | omega | (simp; done) | (simp; omega))))))⟩; first | rfl | (exfalso; omega) | skip)
      · rw [if_neg (fun t => h4 t.1)]
        have h5 : (al == ah) = false := by rw [beq_eq_false_iff_ne]; exact h4
        clear a2 b2 h4
        go_enter Tryz.func40, Tryz.ntmps40
        go_wp2_with fail
        all_goals (refine bodyPost_ret (by simp [results, Tryz.results40, go_sem]; try rfl) rfl ⟨?_, (by repeat (first | exact Below.refl _ _ | (refine Below.drew ?_) | (refine below_drewN ?_ _) | (refine Below.setCell ?_ (by first | omega | (simp; done) | (simp; omega)) _) | (refine Below.alloc ?_ (by first | omega | (simp; done) | (simp; omega)) _) | (refine Below.trans ?_ (Below.mono (by assumption) (by first | omega | (simp; done) | (simp; omega))))))⟩; first | rfl | (exfalso; omega) | skip)
theorem twor_12 (a b : Int × Int) (w : World) (ha : Sp a) (hb : Sp b) : Calls Tryz.prog 40 #[.int .i64 12, .agg #[.int .i64 a.1, .int .i64 a.2], .agg #[.int .i64 b.1, .int .i64 b.2]] w fun e w' => e = .returned (.tuple #[.agg #[.int .i64 ((twoP 12 a b).1).1, .int .i64 ((twoP 12 a b).1).2], .bool (twoP 12 a b).2]) ∧ Below w.heap.size w w' := by
  have e : twoP 12 a b = (sameP a b, true) := by unfold twoP; simp only [Int.reduceEq, if_false, if_true]
  rw [e]
  exact twor_12p a.1 a.2 b.1 b.2 w ha hb
end Go.Proofs.YthiacdbjlkpfgaaGreatDoor
namespace Go.Proofs.YthiacdbjlkpfgaaGreatDoor
open Go.RowKit
set_option maxRecDepth 100000 in
set_option maxHeartbeats 16000000 in
theorem twor_any (op : Int) (a b : Int × Int) (w : World) (ha : Sp a) (hb : Sp b) : Calls Tryz.prog 40 #[.int .i64 op, .agg #[.int .i64 a.1, .int .i64 a.2], .agg #[.int .i64 b.1, .int .i64 b.2]] w fun e w' => e = .returned (.tuple #[.agg #[.int .i64 ((twoP op a b).1).1, .int .i64 ((twoP op a b).1).2], .bool (twoP op a b).2]) ∧ Below w.heap.size w w' := by
  by_cases q4 : op = 4
  · subst q4
    exact twor_4 a b w ha hb
  by_cases q5 : op = 5
  · subst q5
    exact twor_5 a b w ha hb
  by_cases q6 : op = 6
  · subst q6
    exact twor_6 a b w ha hb
  by_cases q7 : op = 7
  · subst q7
    exact twor_7 a b w ha hb
  by_cases q8 : op = 8
  · subst q8
    exact twor_8 a b w ha hb
  by_cases q9 : op = 9
  · subst q9
    exact twor_9 a b w ha hb
  by_cases q10 : op = 10
  · subst q10
    exact twor_10 a b w ha hb
  by_cases q11 : op = 11
  · subst q11
    exact twor_11 a b w ha hb
  by_cases q12 : op = 12
  · subst q12
    exact twor_12 a b w ha hb
  have e : twoP op a b = ((0, 0), false) := by unfold twoP; rw [if_neg q4, if_neg q5, if_neg q6, if_neg q7, if_neg q8, if_neg q9, if_neg q10, if_neg q11, if_neg q12]
  rw [e]
  clear e ha hb
  go_enter Tryz.func40, Tryz.ntmps40
  go_wp2_with fail
  refine bodyPost_ret (by simp [results, Tryz.results40, go_sem]; try rfl) rfl ⟨?_, (by repeat (first | exact Below.refl _ _ | (refine Below.drew ?_) | (refine below_drewN ?_ _) | (refine Below.setCell ?_ (by first | omega | (simp; done) | (simp; omega)) _) | (refine Below.alloc ?_ (by first | omega | (simp; done) | (simp; omega)) _) | (refine Below.trans ?_ (Below.mono (by assumption) (by first | omega | (simp; done) | (simp; omega))))))⟩
  rfl
end Go.Proofs.YthiacdbjlkpfgaaGreatDoor
namespace Go.Proofs.YthiacdbjlkpfgaaGreatDoor
open Go.RowKit
set_option maxRecDepth 100000 in
set_option maxHeartbeats 16000000 in
theorem rtwor_V (op : Int) (x y : V) (w : World) (hx : x.ok) (hy : y.ok) : Calls Tryz.prog 11 #[.int .i64 op, .agg #[.int .i64 (up x.s), .bool x.k, .int .i64 x.n, .int .i64 x.lo, .int .i64 x.hi, .int .i64 (up x.p)], .agg #[.int .i64 (up y.s), .bool y.k, .int .i64 y.n, .int .i64 y.lo, .int .i64 y.hi, .int .i64 (up y.p)]] w fun e w' => e = .returned (.tuple #[.agg #[.int .i64 (up (twoV op x y).1.s), .bool (twoV op x y).1.k, .int .i64 (twoV op x y).1.n, .int .i64 (twoV op x y).1.lo, .int .i64 (twoV op x y).1.hi, .int .i64 (up (twoV op x y).1.p)], .bool (twoV op x y).2]) ∧ Below w.heap.size w w' := by
  have HR : Hid (someV ⟨twoS op x.s y.s, twoI op x.k y.k y.n, twoN op x.k x.n y.k y.n, (twoP op (x.lo, x.hi) (y.lo, y.hi)).1.1, (twoP op (x.lo, x.hi) (y.lo, y.hi)).1.2, twoQ op x.p y.p⟩ (twoOk op y.k y.n && (twoP op (x.lo, x.hi) (y.lo, y.hi)).2) = twoV op x y) := rfl
  generalize twoV op x y = r at *
  have c1 := fun w => ktwor_any op x.k x.n y.k y.n w hx.i hy.i
  have c2 := fun w => twor_any op (x.lo, x.hi) (y.lo, y.hi) w hx.sp hy.sp
  have c3 := fun w => srtwo_any op (up x.s) (up y.s) w
  have c4 := fun w => prtwo_any op (up x.p) (up y.p) w
  simp only [low_up, nall_all, mall_all] at c3 c4
  dsimp only at c2
  clear hx hy
  generalize twoP op (x.lo, x.hi) (y.lo, y.hi) = m at *
  generalize twoOk op y.k y.n = t1 at *
  generalize twoI op x.k y.k y.n = mI at *
  generalize twoN op x.k x.n y.k y.n = mN at *
  generalize twoS op x.s y.s = gs at *
  generalize twoQ op x.p y.p = gp at *
  have x0 : Br (((w.alloc (.cells #[.int .i64 (up x.s), .bool x.k, .int .i64 x.n, .int .i64 x.lo, .int .i64 x.hi, .int .i64 (up x.p)] 27)).alloc (.cells #[.int .i64 (up y.s), .bool y.k, .int .i64 y.n, .int .i64 y.lo, .int .i64 y.hi, .int .i64 (up y.p)] 27)).alloc (.cells #[.int .i64 0, .bool false, .int .i64 0, .int .i64 0, .int .i64 0, .int .i64 0] 27)) (w.heap.size) (up x.s) x.k x.n x.lo x.hi (up x.p) := (((Br.new w (up x.s) x.k x.n x.lo x.hi (up x.p) 27)).keep ((Below.refl _ _).alloc (Nat.le_refl _) _)).keep ((Below.refl _ _).alloc (Nat.le_refl _) _)
  have x1 : Br (((w.alloc (.cells #[.int .i64 (up x.s), .bool x.k, .int .i64 x.n, .int .i64 x.lo, .int .i64 x.hi, .int .i64 (up x.p)] 27)).alloc (.cells #[.int .i64 (up y.s), .bool y.k, .int .i64 y.n, .int .i64 y.lo, .int .i64 y.hi, .int .i64 (up y.p)] 27)).alloc (.cells #[.int .i64 0, .bool false, .int .i64 0, .int .i64 0, .int .i64 0, .int .i64 0] 27)) (w.heap.size + 1) (up y.s) y.k y.n y.lo y.hi (up y.p) := ((by simpa using Br.new (w.alloc (.cells #[.int .i64 (up x.s), .bool x.k, .int .i64 x.n, .int .i64 x.lo, .int .i64 x.hi, .int .i64 (up x.p)] 27)) (up y.s) y.k y.n y.lo y.hi (up y.p) 27 : Br ((w.alloc (.cells #[.int .i64 (up x.s), .bool x.k, .int .i64 x.n, .int .i64 x.lo, .int .i64 x.hi, .int .i64 (up x.p)] 27)).alloc (.cells #[.int .i64 (up y.s), .bool y.k, .int .i64 y.n, .int .i64 y.lo, .int .i64 y.hi, .int .i64 (up y.p)] 27)) (w.heap.size + 1) (up y.s) y.k y.n y.lo y.hi (up y.p))).keep ((Below.refl _ _).alloc (Nat.le_refl _) _)
  have x2 : Br (((w.alloc (.cells #[.int .i64 (up x.s), .bool x.k, .int .i64 x.n, .int .i64 x.lo, .int .i64 x.hi, .int .i64 (up x.p)] 27)).alloc (.cells #[.int .i64 (up y.s), .bool y.k, .int .i64 y.n, .int .i64 y.lo, .int .i64 y.hi, .int .i64 (up y.p)] 27)).alloc (.cells #[.int .i64 0, .bool false, .int .i64 0, .int .i64 0, .int .i64 0, .int .i64 0] 27)) (w.heap.size + 1 + 1) 0 false 0 0 0 0 := (by simpa using Br.new ((w.alloc (.cells #[.int .i64 (up x.s), .bool x.k, .int .i64 x.n, .int .i64 x.lo, .int .i64 x.hi, .int .i64 (up x.p)] 27)).alloc (.cells #[.int .i64 (up y.s), .bool y.k, .int .i64 y.n, .int .i64 y.lo, .int .i64 y.hi, .int .i64 (up y.p)] 27)) 0 false 0 0 0 0 27 : Br (((w.alloc (.cells #[.int .i64 (up x.s), .bool x.k, .int .i64 x.n, .int .i64 x.lo, .int .i64 x.hi, .int .i64 (up x.p)] 27)).alloc (.cells #[.int .i64 (up y.s), .bool y.k, .int .i64 y.n, .int .i64 y.lo, .int .i64 y.hi, .int .i64 (up y.p)] 27)).alloc (.cells #[.int .i64 0, .bool false, .int .i64 0, .int .i64 0, .int .i64 0, .int .i64 0] 27)) (w.heap.size + 1 + 1) 0 false 0 0 0 0)
  have xf : Fz (((w.alloc (.cells #[.int .i64 (up x.s), .bool x.k, .int .i64 x.n, .int .i64 x.lo, .int .i64 x.hi, .int .i64 (up x.p)] 27)).alloc (.cells #[.int .i64 (up y.s), .bool y.k, .int .i64 y.n, .int .i64 y.lo, .int .i64 y.hi, .int .i64 (up y.p)] 27)).alloc (.cells #[.int .i64 0, .bool false, .int .i64 0, .int .i64 0, .int .i64 0, .int .i64 0] 27)) (w.heap.size + 1 + 1) := by simpa using Fz.new ((w.alloc (.cells #[.int .i64 (up x.s), .bool x.k, .int .i64 x.n, .int .i64 x.lo, .int .i64 x.hi, .int .i64 (up x.p)] 27)).alloc (.cells #[.int .i64 (up y.s), .bool y.k, .int .i64 y.n, .int .i64 y.lo, .int .i64 y.hi, .int .i64 (up y.p)] 27)) 0 false 0 0 0 0 27
  have xb : Below w.heap.size w (((w.alloc (.cells #[.int .i64 (up x.s), .bool x.k, .int .i64 x.n, .int .i64 x.lo, .int .i64 x.hi, .int .i64 (up x.p)] 27)).alloc (.cells #[.int .i64 (up y.s), .bool y.k, .int .i64 y.n, .int .i64 y.lo, .int .i64 y.hi, .int .i64 (up y.p)] 27)).alloc (.cells #[.int .i64 0, .bool false, .int .i64 0, .int .i64 0, .int .i64 0, .int .i64 0] 27)) := (by repeat (first | exact Below.refl _ _ | (refine Below.drew ?_) | (refine below_drewN ?_ _) | (refine Below.setCell ?_ (by first | omega | (simp; done) | (simp; omega)) _) | (refine Below.alloc ?_ (by first | omega | (simp; done) | (simp; omega)) _) | (refine Below.trans ?_ (Below.mono (by assumption) (by first | omega | (simp; done) | (simp; omega))))))
  go_enter Tryz.func11, Tryz.ntmps11
  go_upto_region 1 with fail
  go_name_world W hW
  rw [hW] at x0 x1 x2 xf xb
  clear hW
  obtain ⟨N, hN⟩ : ∃ N, N = w.heap.size := ⟨_, rfl⟩
  rw [← hN] at x0 x1 x2 xf xb ⊢
  have HN : Hid (N = w.heap.size) := hN
  clear hN
  have HA := hide (And.intro x0 (And.intro x1 (And.intro x2 (And.intro xf xb))))
  clear x0 x1 x2 xf xb
  have a0 := HA.out.1.c0
  have a1 := HA.out.1.c1
  have a2 := HA.out.1.c2
  have a3 := HA.out.1.c3
  have a4 := HA.out.1.c4
  have a5 := HA.out.1.c5
  have d0 := HA.out.2.1.c0
  have d1 := HA.out.2.1.c1
  have d2 := HA.out.2.1.c2
  have d3 := HA.out.2.1.c3
  have d4 := HA.out.2.1.c4
  have d5 := HA.out.2.1.c5
  go_upto_region 2 with (go_at_call 39; refine (c1 _).mono ?_; rintro e wK ⟨rfl, hK⟩)
  go_name_world W2 hW2
  have HB : Hid (Br W2 N (up x.s) x.k x.n x.lo x.hi (up x.p) ∧ Br W2 (N + 1) (up y.s) y.k y.n y.lo y.hi (up y.p) ∧ Br W2 (N + 1 + 1) 0 false 0 0 0 0 ∧ Fz W2 (N + 1 + 1) ∧ Below N w W2 ∧ K2 W2 wK.heap.size mI mN ∧ (N + 1 + 1) < wK.heap.size) := by
    rw [← hW2]
    have k0 := HA.out.1.keep hK
    have k1 := HA.out.2.1.keep hK
    have k2 := HA.out.2.2.1.keep hK
    have kf := HA.out.2.2.2.1.keep HA.out.2.2.1.lt hK
    have kb := HA.out.2.2.2.2.trans (hK.mono (Nat.le_of_lt HA.out.1.lt))
    exact ⟨k0.keep ((Below.refl _ _).alloc (Nat.le_refl _) _), k1.keep ((Below.refl _ _).alloc (Nat.le_refl _) _), k2.keep ((Below.refl _ _).alloc (Nat.le_refl _) _), kf.keep k2.lt ((Below.refl _ _).alloc (Nat.le_refl _) _), kb.alloc (Nat.le_of_lt k0.lt) _, K2.new _ _ _ _, k2.lt⟩
  clear hW2 hK HA c1 a0 a1 a2 a3 a4 a5 d0 d1 d2 d3 d4 d5
  generalize wK.heap.size = T6 at *
  have a0 := HB.out.1.c0
  have a1 := HB.out.1.c1
  have a2 := HB.out.1.c2
  have a3 := HB.out.1.c3
  have a4 := HB.out.1.c4
  have a5 := HB.out.1.c5
  have d0 := HB.out.2.1.c0
  have d1 := HB.out.2.1.c1
  have d2 := HB.out.2.1.c2
  have d3 := HB.out.2.1.c3
  have d4 := HB.out.2.1.c4
  have d5 := HB.out.2.1.c5
  go_upto_region 3 with (go_at_call 40; refine (c2 _).mono ?_; rintro e wK ⟨rfl, hK⟩)
  go_name_world W3 hW3
  have HC : Hid (Br W3 N (up x.s) x.k x.n x.lo x.hi (up x.p) ∧ Br W3 (N + 1) (up y.s) y.k y.n y.lo y.hi (up y.p) ∧ Br W3 (N + 1 + 1) 0 false 0 0 0 0 ∧ Fz W3 (N + 1 + 1) ∧ Below N w W3 ∧ K2 W3 T6 mI mN ∧ S2 W3 wK.heap.size m.1.1 m.1.2 ∧ (N + 1 + 1) < T6 ∧ (N + 1 + 1) < wK.heap.size) := by
    rw [← hW3]
    have k0 := HB.out.1.keep hK
    have k1 := HB.out.2.1.keep hK
    have k2 := HB.out.2.2.1.keep hK
    have kf := HB.out.2.2.2.1.keep HB.out.2.2.1.lt hK
    have kb := HB.out.2.2.2.2.1.trans (hK.mono (Nat.le_of_lt HB.out.1.lt))
    have k5 := (HB.out.2.2.2.2.2.1).keep hK
    exact ⟨k0.keep ((Below.refl _ _).alloc (Nat.le_refl _) _), k1.keep ((Below.refl _ _).alloc (Nat.le_refl _) _), k2.keep ((Below.refl _ _).alloc (Nat.le_refl _) _), kf.keep k2.lt ((Below.refl _ _).alloc (Nat.le_refl _) _), kb.alloc (Nat.le_of_lt k0.lt) _, k5.keep ((Below.refl _ _).alloc (Nat.le_refl _) _), S2.new _ _ _ _, HB.out.2.2.2.2.2.2, k2.lt⟩
  clear hW3 hK HB c2 a0 a1 a2 a3 a4 a5 d0 d1 d2 d3 d4 d5
  generalize wK.heap.size = T8 at *
  have HCL : Hid (∀ a b : World, (a.cell? ⟨N, 0, none⟩ = some (.int .i64 (up x.s)) ∧ a.cell? ⟨N, 5, none⟩ = some (.int .i64 (up x.p)) ∧ a.cell? ⟨N + 1, 0, none⟩ = some (.int .i64 (up y.s)) ∧ a.cell? ⟨N + 1, 5, none⟩ = some (.int .i64 (up y.p)) ∧ a.cell? ⟨T6, 0, none⟩ = some (.bool mI) ∧ a.cell? ⟨T6, 1, none⟩ = some (.int .i64 mN) ∧ a.cell? ⟨T8, 0, none⟩ = some (.int .i64 m.1.1) ∧ a.cell? ⟨T8, 1, none⟩ = some (.int .i64 m.1.2) ∧ Hid (Br a N (up x.s) x.k x.n x.lo x.hi (up x.p) ∧ Br a (N + 1) (up y.s) y.k y.n y.lo y.hi (up y.p) ∧ Rw a (N + 1 + 1) ∧ Below N w a ∧ K2 a T6 mI mN ∧ S2 a T8 m.1.1 m.1.2 ∧ (N + 1 + 1) < T6 ∧ (N + 1 + 1) < T8)) → Below a.heap.size a b → (b.cell? ⟨N, 0, none⟩ = some (.int .i64 (up x.s)) ∧ b.cell? ⟨N, 5, none⟩ = some (.int .i64 (up x.p)) ∧ b.cell? ⟨N + 1, 0, none⟩ = some (.int .i64 (up y.s)) ∧ b.cell? ⟨N + 1, 5, none⟩ = some (.int .i64 (up y.p)) ∧ b.cell? ⟨T6, 0, none⟩ = some (.bool mI) ∧ b.cell? ⟨T6, 1, none⟩ = some (.int .i64 mN) ∧ b.cell? ⟨T8, 0, none⟩ = some (.int .i64 m.1.1) ∧ b.cell? ⟨T8, 1, none⟩ = some (.int .i64 m.1.2) ∧ Hid (Br b N (up x.s) x.k x.n x.lo x.hi (up x.p) ∧ Br b (N + 1) (up y.s) y.k y.n y.lo y.hi (up y.p) ∧ Rw b (N + 1 + 1) ∧ Below N w b ∧ K2 b T6 mI mN ∧ S2 b T8 m.1.1 m.1.2 ∧ (N + 1 + 1) < T6 ∧ (N + 1 + 1) < T8))) := fun a b h hb => by
    have y9 := (h.2.2.2.2.2.2.2.2).out
    have z9 : Br b N (up x.s) x.k x.n x.lo x.hi (up x.p) ∧ Br b (N + 1) (up y.s) y.k y.n y.lo y.hi (up y.p) ∧ Rw b (N + 1 + 1) ∧ Below N w b ∧ K2 b T6 mI mN ∧ S2 b T8 m.1.1 m.1.2 ∧ (N + 1 + 1) < T6 ∧ (N + 1 + 1) < T8 := ⟨y9.1.keep hb, y9.2.1.keep hb, y9.2.2.1.keep hb, y9.2.2.2.1.trans (hb.mono (Nat.le_of_lt y9.1.lt)), y9.2.2.2.2.1.keep hb, y9.2.2.2.2.2.1.keep hb, y9.2.2.2.2.2.2.1, y9.2.2.2.2.2.2.2⟩
    exact ⟨z9.1.c0, z9.1.c5, z9.2.1.c0, z9.2.1.c5, z9.2.2.2.2.1.1, z9.2.2.2.2.1.2, z9.2.2.2.2.2.1.1, z9.2.2.2.2.2.1.2, z9⟩
  have HST : Hid (∀ a : World, (a.cell? ⟨N, 0, none⟩ = some (.int .i64 (up x.s)) ∧ a.cell? ⟨N, 5, none⟩ = some (.int .i64 (up x.p)) ∧ a.cell? ⟨N + 1, 0, none⟩ = some (.int .i64 (up y.s)) ∧ a.cell? ⟨N + 1, 5, none⟩ = some (.int .i64 (up y.p)) ∧ a.cell? ⟨T6, 0, none⟩ = some (.bool mI) ∧ a.cell? ⟨T6, 1, none⟩ = some (.int .i64 mN) ∧ a.cell? ⟨T8, 0, none⟩ = some (.int .i64 m.1.1) ∧ a.cell? ⟨T8, 1, none⟩ = some (.int .i64 m.1.2) ∧ Hid (Br a N (up x.s) x.k x.n x.lo x.hi (up x.p) ∧ Br a (N + 1) (up y.s) y.k y.n y.lo y.hi (up y.p) ∧ Rw a (N + 1 + 1) ∧ Below N w a ∧ K2 a T6 mI mN ∧ S2 a T8 m.1.1 m.1.2 ∧ (N + 1 + 1) < T6 ∧ (N + 1 + 1) < T8)) → ((st6 a (N + 1 + 1) (.int .i64 (up r.1.s)) (.bool r.1.k) (.int .i64 r.1.n) (.int .i64 r.1.lo) (.int .i64 r.1.hi) (.int .i64 (up r.1.p))).cell? ⟨N, 0, none⟩ = some (.int .i64 (up x.s)) ∧ (st6 a (N + 1 + 1) (.int .i64 (up r.1.s)) (.bool r.1.k) (.int .i64 r.1.n) (.int .i64 r.1.lo) (.int .i64 r.1.hi) (.int .i64 (up r.1.p))).cell? ⟨N, 5, none⟩ = some (.int .i64 (up x.p)) ∧ (st6 a (N + 1 + 1) (.int .i64 (up r.1.s)) (.bool r.1.k) (.int .i64 r.1.n) (.int .i64 r.1.lo) (.int .i64 r.1.hi) (.int .i64 (up r.1.p))).cell? ⟨N + 1, 0, none⟩ = some (.int .i64 (up y.s)) ∧ (st6 a (N + 1 + 1) (.int .i64 (up r.1.s)) (.bool r.1.k) (.int .i64 r.1.n) (.int .i64 r.1.lo) (.int .i64 r.1.hi) (.int .i64 (up r.1.p))).cell? ⟨N + 1, 5, none⟩ = some (.int .i64 (up y.p)) ∧ (st6 a (N + 1 + 1) (.int .i64 (up r.1.s)) (.bool r.1.k) (.int .i64 r.1.n) (.int .i64 r.1.lo) (.int .i64 r.1.hi) (.int .i64 (up r.1.p))).cell? ⟨T6, 0, none⟩ = some (.bool mI) ∧ (st6 a (N + 1 + 1) (.int .i64 (up r.1.s)) (.bool r.1.k) (.int .i64 r.1.n) (.int .i64 r.1.lo) (.int .i64 r.1.hi) (.int .i64 (up r.1.p))).cell? ⟨T6, 1, none⟩ = some (.int .i64 mN) ∧ (st6 a (N + 1 + 1) (.int .i64 (up r.1.s)) (.bool r.1.k) (.int .i64 r.1.n) (.int .i64 r.1.lo) (.int .i64 r.1.hi) (.int .i64 (up r.1.p))).cell? ⟨T8, 0, none⟩ = some (.int .i64 m.1.1) ∧ (st6 a (N + 1 + 1) (.int .i64 (up r.1.s)) (.bool r.1.k) (.int .i64 r.1.n) (.int .i64 r.1.lo) (.int .i64 r.1.hi) (.int .i64 (up r.1.p))).cell? ⟨T8, 1, none⟩ = some (.int .i64 m.1.2) ∧ Hid (Br (st6 a (N + 1 + 1) (.int .i64 (up r.1.s)) (.bool r.1.k) (.int .i64 r.1.n) (.int .i64 r.1.lo) (.int .i64 r.1.hi) (.int .i64 (up r.1.p))) N (up x.s) x.k x.n x.lo x.hi (up x.p) ∧ Br (st6 a (N + 1 + 1) (.int .i64 (up r.1.s)) (.bool r.1.k) (.int .i64 r.1.n) (.int .i64 r.1.lo) (.int .i64 r.1.hi) (.int .i64 (up r.1.p))) (N + 1) (up y.s) y.k y.n y.lo y.hi (up y.p) ∧ Rw (st6 a (N + 1 + 1) (.int .i64 (up r.1.s)) (.bool r.1.k) (.int .i64 r.1.n) (.int .i64 r.1.lo) (.int .i64 r.1.hi) (.int .i64 (up r.1.p))) (N + 1 + 1) ∧ Below N w (st6 a (N + 1 + 1) (.int .i64 (up r.1.s)) (.bool r.1.k) (.int .i64 r.1.n) (.int .i64 r.1.lo) (.int .i64 r.1.hi) (.int .i64 (up r.1.p))) ∧ K2 (st6 a (N + 1 + 1) (.int .i64 (up r.1.s)) (.bool r.1.k) (.int .i64 r.1.n) (.int .i64 r.1.lo) (.int .i64 r.1.hi) (.int .i64 (up r.1.p))) T6 mI mN ∧ S2 (st6 a (N + 1 + 1) (.int .i64 (up r.1.s)) (.bool r.1.k) (.int .i64 r.1.n) (.int .i64 r.1.lo) (.int .i64 r.1.hi) (.int .i64 (up r.1.p))) T8 m.1.1 m.1.2 ∧ (N + 1 + 1) < T6 ∧ (N + 1 + 1) < T8))) := fun a h => by
    have y9 := (h.2.2.2.2.2.2.2.2).out
    have g1 := y9.2.2.2.2.2.2.1
    have g2 := y9.2.2.2.2.2.2.2
    have z9 : Br (st6 a (N + 1 + 1) (.int .i64 (up r.1.s)) (.bool r.1.k) (.int .i64 r.1.n) (.int .i64 r.1.lo) (.int .i64 r.1.hi) (.int .i64 (up r.1.p))) N (up x.s) x.k x.n x.lo x.hi (up x.p) ∧ Br (st6 a (N + 1 + 1) (.int .i64 (up r.1.s)) (.bool r.1.k) (.int .i64 r.1.n) (.int .i64 r.1.lo) (.int .i64 r.1.hi) (.int .i64 (up r.1.p))) (N + 1) (up y.s) y.k y.n y.lo y.hi (up y.p) ∧ Rw (st6 a (N + 1 + 1) (.int .i64 (up r.1.s)) (.bool r.1.k) (.int .i64 r.1.n) (.int .i64 r.1.lo) (.int .i64 r.1.hi) (.int .i64 (up r.1.p))) (N + 1 + 1) ∧ Below N w (st6 a (N + 1 + 1) (.int .i64 (up r.1.s)) (.bool r.1.k) (.int .i64 r.1.n) (.int .i64 r.1.lo) (.int .i64 r.1.hi) (.int .i64 (up r.1.p))) ∧ K2 (st6 a (N + 1 + 1) (.int .i64 (up r.1.s)) (.bool r.1.k) (.int .i64 r.1.n) (.int .i64 r.1.lo) (.int .i64 r.1.hi) (.int .i64 (up r.1.p))) T6 mI mN ∧ S2 (st6 a (N + 1 + 1) (.int .i64 (up r.1.s)) (.bool r.1.k) (.int .i64 r.1.n) (.int .i64 r.1.lo) (.int .i64 r.1.hi) (.int .i64 (up r.1.p))) T8 m.1.1 m.1.2 ∧ (N + 1 + 1) < T6 ∧ (N + 1 + 1) < T8 := ⟨y9.1.put (by omega) _ _ _ _ _ _, y9.2.1.put (by omega) _ _ _ _ _ _, y9.2.2.1.put (up r.1.s) r.1.k r.1.n r.1.lo r.1.hi (up r.1.p), st6_below y9.2.2.2.1 _ (by omega) _ _ _ _ _ _, y9.2.2.2.2.1.put (by omega) _ _ _ _ _ _, y9.2.2.2.2.2.1.put (by omega) _ _ _ _ _ _, g1, g2⟩
    exact ⟨z9.1.c0, z9.1.c5, z9.2.1.c0, z9.2.1.c5, z9.2.2.2.2.1.1, z9.2.2.2.2.1.2, z9.2.2.2.2.2.1.1, z9.2.2.2.2.2.1.2, z9⟩
  have z0 : Br W3 N (up x.s) x.k x.n x.lo x.hi (up x.p) ∧ Br W3 (N + 1) (up y.s) y.k y.n y.lo y.hi (up y.p) ∧ Rw W3 (N + 1 + 1) ∧ Below N w W3 ∧ K2 W3 T6 mI mN ∧ S2 W3 T8 m.1.1 m.1.2 ∧ (N + 1 + 1) < T6 ∧ (N + 1 + 1) < T8 := ⟨HC.out.1, HC.out.2.1, ⟨_, _, _, _, _, _, HC.out.2.2.1, HC.out.2.2.2.1⟩, HC.out.2.2.2.2.1, HC.out.2.2.2.2.2.1, HC.out.2.2.2.2.2.2.1, HC.out.2.2.2.2.2.2.2.1, HC.out.2.2.2.2.2.2.2.2⟩
  have hS0 : W3.cell? ⟨N, 0, none⟩ = some (.int .i64 (up x.s)) ∧ W3.cell? ⟨N, 5, none⟩ = some (.int .i64 (up x.p)) ∧ W3.cell? ⟨N + 1, 0, none⟩ = some (.int .i64 (up y.s)) ∧ W3.cell? ⟨N + 1, 5, none⟩ = some (.int .i64 (up y.p)) ∧ W3.cell? ⟨T6, 0, none⟩ = some (.bool mI) ∧ W3.cell? ⟨T6, 1, none⟩ = some (.int .i64 mN) ∧ W3.cell? ⟨T8, 0, none⟩ = some (.int .i64 m.1.1) ∧ W3.cell? ⟨T8, 1, none⟩ = some (.int .i64 m.1.2) ∧ Hid (Br W3 N (up x.s) x.k x.n x.lo x.hi (up x.p) ∧ Br W3 (N + 1) (up y.s) y.k y.n y.lo y.hi (up y.p) ∧ Rw W3 (N + 1 + 1) ∧ Below N w W3 ∧ K2 W3 T6 mI mN ∧ S2 W3 T8 m.1.1 m.1.2 ∧ (N + 1 + 1) < T6 ∧ (N + 1 + 1) < T8) := ⟨z0.1.c0, z0.1.c5, z0.2.1.c0, z0.2.1.c5, z0.2.2.2.2.1.1, z0.2.2.2.2.1.2, z0.2.2.2.2.2.1.1, z0.2.2.2.2.2.1.2, z0⟩
  clear z0 HC
  have c5 := fun w => allr_V ⟨gs, mI, mN, m.1.1, m.1.2, gp⟩ t1 m.2 w
  rw [HR.out] at c5
  refine wp_region_held_drew (S := fun w' => w'.cell? ⟨N, 0, none⟩ = some (.int .i64 (up x.s)) ∧ w'.cell? ⟨N, 5, none⟩ = some (.int .i64 (up x.p)) ∧ w'.cell? ⟨N + 1, 0, none⟩ = some (.int .i64 (up y.s)) ∧ w'.cell? ⟨N + 1, 5, none⟩ = some (.int .i64 (up y.p)) ∧ w'.cell? ⟨T6, 0, none⟩ = some (.bool mI) ∧ w'.cell? ⟨T6, 1, none⟩ = some (.int .i64 mN) ∧ w'.cell? ⟨T8, 0, none⟩ = some (.int .i64 m.1.1) ∧ w'.cell? ⟨T8, 1, none⟩ = some (.int .i64 m.1.2) ∧ Hid (Br w' N (up x.s) x.k x.n x.lo x.hi (up x.p) ∧ Br w' (N + 1) (up y.s) y.k y.n y.lo y.hi (up y.p) ∧ Rw w' (N + 1 + 1) ∧ Below N w w' ∧ K2 w' T6 mI mN ∧ S2 w' T8 m.1.1 m.1.2 ∧ (N + 1 + 1) < T6 ∧ (N + 1 + 1) < T8)) (by kernel_rfl) (HCL.out _ _ hS0 ((Below.refl _ _).drew)) (fun hHeld => ?_)
  refine wpAnyH_take (i := 0) (oi := ({ dst := some 30, op := Op.move (Operand.tmp 0), type := 3, pos := "ref.go:89", after := #[], guard := none } : Oper)) (v := ?_) rfl (by kernel_rfl) (by kernel_rfl) (by kernel_rfl) (fun _ _ _ h => h) (Or.inl ⟨by rfl, ?_⟩) (by assumption) ?_
  rotate_left
  · (intro wz hSw; (try dsimp only at hSw); go_simp; try with_reducible rfl)
  simp only [Act.put, List.setIfInBounds_toArray, List.set_cons_zero, List.set_cons_succ]
  refine wpAnyH_take (i := 1) (oi := ({ dst := some 31, op := Op.fieldAddr 27 (Operand.tmp 4) 0, type := 0, pos := "ref.go:89", after := #[], guard := none } : Oper)) (v := ?_) rfl (by kernel_rfl) (by kernel_rfl) (by kernel_rfl) (fun _ _ _ h => h) (Or.inl ⟨by rfl, ?_⟩) (by assumption) ?_
  rotate_left
  · (intro wz hSw; (try dsimp only at hSw); go_simp; try with_reducible rfl)
  simp only [Act.put, List.setIfInBounds_toArray, List.set_cons_zero, List.set_cons_succ]
  refine wpAnyH_take (i := 2) (oi := ({ dst := some 32, op := Op.load 3 (Operand.tmp 31), type := 3, pos := "ref.go:89", after := #[{ on := 1, ground := Ground.data }], guard := none } : Oper)) (v := ?_) rfl (by kernel_rfl) (by kernel_rfl) (by kernel_rfl) (fun _ _ _ h => h) (Or.inl ⟨by rfl, ?_⟩) (by assumption) ?_
  rotate_left
  · (intro wz hSw; (try dsimp only at hSw); go_simp; try with_reducible rfl)
  simp only [Act.put, List.setIfInBounds_toArray, List.set_cons_zero, List.set_cons_succ]
  refine wpAnyH_take (i := 3) (oi := ({ dst := some 33, op := Op.fieldAddr 27 (Operand.tmp 5) 0, type := 0, pos := "ref.go:89", after := #[], guard := none } : Oper)) (v := ?_) rfl (by kernel_rfl) (by kernel_rfl) (by kernel_rfl) (fun _ _ _ h => h) (Or.inl ⟨by rfl, ?_⟩) (by assumption) ?_
  rotate_left
  · (intro wz hSw; (try dsimp only at hSw); go_simp; try with_reducible rfl)
  simp only [Act.put, List.setIfInBounds_toArray, List.set_cons_zero, List.set_cons_succ]
  refine wpAnyH_take (i := 4) (oi := ({ dst := some 34, op := Op.load 3 (Operand.tmp 33), type := 3, pos := "ref.go:89", after := #[{ on := 3, ground := Ground.data }], guard := none } : Oper)) (v := ?_) rfl (by kernel_rfl) (by kernel_rfl) (by kernel_rfl) (fun _ _ _ h => h) (Or.inl ⟨by rfl, ?_⟩) (by assumption) ?_
  rotate_left
  · (intro wz hSw; (try dsimp only at hSw); go_simp; try with_reducible rfl)
  simp only [Act.put, List.setIfInBounds_toArray, List.set_cons_zero, List.set_cons_succ]
  refine wpAnyH_take (i := 6) (oi := ({ dst := some 36, op := Op.load 23 (Operand.tmp 8), type := 23, pos := "ref.go:89", after := #[], guard := none } : Oper)) (v := ?_) rfl (by kernel_rfl) (by kernel_rfl) (by kernel_rfl) (fun _ _ _ h => h) (Or.inl ⟨by rfl, ?_⟩) (by assumption) ?_
  rotate_left
  · (intro wz hSw; (try dsimp only at hSw); go_simp; try with_reducible rfl)
  simp only [Act.put, List.setIfInBounds_toArray, List.set_cons_zero, List.set_cons_succ]
  refine wpAnyH_take (i := 7) (oi := ({ dst := some 37, op := Op.load 25 (Operand.tmp 10), type := 25, pos := "ref.go:89", after := #[], guard := none } : Oper)) (v := ?_) rfl (by kernel_rfl) (by kernel_rfl) (by kernel_rfl) (fun _ _ _ h => h) (Or.inl ⟨by rfl, ?_⟩) (by assumption) ?_
  rotate_left
  · (intro wz hSw; (try dsimp only at hSw); go_simp; try with_reducible rfl)
  simp only [Act.put, List.setIfInBounds_toArray, List.set_cons_zero, List.set_cons_succ]
  refine wpAnyH_take (i := 8) (oi := ({ dst := some 38, op := Op.move (Operand.tmp 0), type := 3, pos := "ref.go:89", after := #[], guard := none } : Oper)) (v := ?_) rfl (by kernel_rfl) (by kernel_rfl) (by kernel_rfl) (fun _ _ _ h => h) (Or.inl ⟨by rfl, ?_⟩) (by assumption) ?_
  rotate_left
  · (intro wz hSw; (try dsimp only at hSw); go_simp; try with_reducible rfl)
  simp only [Act.put, List.setIfInBounds_toArray, List.set_cons_zero, List.set_cons_succ]
  refine wpAnyH_take (i := 9) (oi := ({ dst := some 39, op := Op.fieldAddr 27 (Operand.tmp 4) 3, type := 0, pos := "ref.go:89", after := #[], guard := none } : Oper)) (v := ?_) rfl (by kernel_rfl) (by kernel_rfl) (by kernel_rfl) (fun _ _ _ h => h) (Or.inl ⟨by rfl, ?_⟩) (by assumption) ?_
  rotate_left
  · (intro wz hSw; (try dsimp only at hSw); go_simp; try with_reducible rfl)
  simp only [Act.put, List.setIfInBounds_toArray, List.set_cons_zero, List.set_cons_succ]
  refine wpAnyH_take (i := 10) (oi := ({ dst := some 40, op := Op.load 3 (Operand.tmp 39), type := 3, pos := "ref.go:89", after := #[{ on := 9, ground := Ground.data }], guard := none } : Oper)) (v := ?_) rfl (by kernel_rfl) (by kernel_rfl) (by kernel_rfl) (fun _ _ _ h => h) (Or.inl ⟨by rfl, ?_⟩) (by assumption) ?_
  rotate_left
  · (intro wz hSw; (try dsimp only at hSw); go_simp; try with_reducible rfl)
  simp only [Act.put, List.setIfInBounds_toArray, List.set_cons_zero, List.set_cons_succ]
  refine wpAnyH_take (i := 11) (oi := ({ dst := some 41, op := Op.fieldAddr 27 (Operand.tmp 5) 3, type := 0, pos := "ref.go:89", after := #[], guard := none } : Oper)) (v := ?_) rfl (by kernel_rfl) (by kernel_rfl) (by kernel_rfl) (fun _ _ _ h => h) (Or.inl ⟨by rfl, ?_⟩) (by assumption) ?_
  rotate_left
  · (intro wz hSw; (try dsimp only at hSw); go_simp; try with_reducible rfl)
  simp only [Act.put, List.setIfInBounds_toArray, List.set_cons_zero, List.set_cons_succ]
  refine wpAnyH_take (i := 12) (oi := ({ dst := some 42, op := Op.load 3 (Operand.tmp 41), type := 3, pos := "ref.go:89", after := #[{ on := 11, ground := Ground.data }], guard := none } : Oper)) (v := ?_) rfl (by kernel_rfl) (by kernel_rfl) (by kernel_rfl) (fun _ _ _ h => h) (Or.inl ⟨by rfl, ?_⟩) (by assumption) ?_
  rotate_left
  · (intro wz hSw; (try dsimp only at hSw); go_simp; try with_reducible rfl)
  simp only [Act.put, List.setIfInBounds_toArray, List.set_cons_zero, List.set_cons_succ]
  refine wpAnyH_take (i := 15) (oi := ({ dst := some 45, op := Op.move (Operand.tmp 9), type := 4, pos := "ref.go:89", after := #[], guard := none } : Oper)) (v := ?_) rfl (by kernel_rfl) (by kernel_rfl) (by kernel_rfl) (fun _ _ _ h => h) (Or.inl ⟨by rfl, ?_⟩) (by assumption) ?_
  rotate_left
  · (intro wz hSw; (try dsimp only at hSw); go_simp; try with_reducible rfl)
  simp only [Act.put, List.setIfInBounds_toArray, List.set_cons_zero, List.set_cons_succ]
  refine wpAnyH_take (i := 16) (oi := ({ dst := some 46, op := Op.move (Operand.tmp 11), type := 4, pos := "ref.go:89", after := #[], guard := none } : Oper)) (v := ?_) rfl (by kernel_rfl) (by kernel_rfl) (by kernel_rfl) (fun _ _ _ h => h) (Or.inl ⟨by rfl, ?_⟩) (by assumption) ?_
  rotate_left
  · (intro wz hSw; (try dsimp only at hSw); go_simp; try with_reducible rfl)
  simp only [Act.put, List.setIfInBounds_toArray, List.set_cons_zero, List.set_cons_succ]
  refine wpAnyH_ready (rs := [5]) (by kernel_rfl) (by simp) ?_
  refine AllReadyH.cons (o := ({ dst := some 35, op := Op.call { callee := Callee.value (Operand.func 41), args := #[Operand.tmp 30, Operand.tmp 32, Operand.tmp 34], argTypes := #[3, 3, 3] }, type := 3, pos := "ref.go:89", after := #[{ on := 0, ground := Ground.data }, { on := 2, ground := Ground.data }, { on := 4, ground := Ground.data }], guard := none } : Oper)) rfl (fun K hK => ?_) AllReadyH.nil
  go_simp
  go_at_call 41
  refine (lift (c3 _) (by assumption) HCL.out).mono ?_
  rintro e v1 ⟨rfl, g1⟩
  clear hHeld
  refine hK.out _ _ g1 (fun hHeld => ?_)
  clear hK K
  refine wpAnyH_ready (rs := [13]) (by kernel_rfl) (by simp) ?_
  refine AllReadyH.cons (o := ({ dst := some 43, op := Op.call { callee := Callee.value (Operand.func 42), args := #[Operand.tmp 38, Operand.tmp 40, Operand.tmp 42], argTypes := #[3, 3, 3] }, type := 3, pos := "ref.go:89", after := #[{ on := 8, ground := Ground.data }, { on := 10, ground := Ground.data }, { on := 12, ground := Ground.data }, { on := 5, ground := Ground.chain }], guard := none } : Oper)) rfl (fun K hK => ?_) AllReadyH.nil
  go_simp
  go_at_call 42
  refine (lift (c4 _) (by assumption) HCL.out).mono ?_
  rintro e v2 ⟨rfl, g2⟩
  clear hHeld g1
  refine hK.out _ _ g2 (fun hHeld => ?_)
  clear hK K
  refine wpAnyH_take (i := 14) (oi := ({ dst := some 44, op := Op.build 27 #[(0, Operand.tmp 35), (1, Operand.tmp 36), (2, Operand.tmp 37), (3, Operand.tmp 43)], type := 27, pos := "ref.go:89", after := #[{ on := 5, ground := Ground.data }, { on := 6, ground := Ground.data }, { on := 7, ground := Ground.data }, { on := 13, ground := Ground.data }], guard := none } : Oper)) (v := ?_) rfl (by kernel_rfl) (by kernel_rfl) (by kernel_rfl) (fun _ _ _ h => h) (Or.inl ⟨by rfl, ?_⟩) (by assumption) ?_
  rotate_left
  · (intro wz hSw; (try dsimp only at hSw); go_simp; try with_reducible rfl)
  simp only [Act.put, List.setIfInBounds_toArray, List.set_cons_zero, List.set_cons_succ]
  refine wpAnyH_ready (rs := [17]) (by kernel_rfl) (by simp) ?_
  refine AllReadyH.cons (o := ({ dst := some 47, op := Op.call { callee := Callee.value (Operand.func 25), args := #[Operand.tmp 44, Operand.tmp 45, Operand.tmp 46], argTypes := #[27, 4, 4] }, type := 36, pos := "ref.go:89", after := #[{ on := 14, ground := Ground.data }, { on := 15, ground := Ground.data }, { on := 16, ground := Ground.data }, { on := 13, ground := Ground.chain }], guard := none } : Oper)) rfl (fun K hK => ?_) AllReadyH.nil
  go_simp
  go_at_call 25
  refine (lift (c5 _) (by assumption) HCL.out).mono ?_
  rintro e v3 ⟨rfl, g3⟩
  clear hHeld g2
  refine hK.out _ _ g3 (fun hHeld => ?_)
  clear hK K
  refine wpAnyH_take (i := 18) (oi := ({ dst := some 48, op := Op.extract (Operand.tmp 47) 0, type := 27, pos := "ref.go:89", after := #[{ on := 17, ground := Ground.data }], guard := none } : Oper)) (v := ?_) rfl (by kernel_rfl) (by kernel_rfl) (by kernel_rfl) (fun _ _ _ h => h) (Or.inl ⟨by rfl, ?_⟩) (by assumption) ?_
  rotate_left
  · (intro wz hSw; (try dsimp only at hSw); go_simp; try with_reducible rfl)
  simp only [Act.put, List.setIfInBounds_toArray, List.set_cons_zero, List.set_cons_succ]
  refine wpAnyH_take (i := 19) (oi := ({ dst := some 49, op := Op.extract (Operand.tmp 47) 1, type := 4, pos := "ref.go:89", after := #[{ on := 17, ground := Ground.data }], guard := none } : Oper)) (v := ?_) rfl (by kernel_rfl) (by kernel_rfl) (by kernel_rfl) (fun _ _ _ h => h) (Or.inl ⟨by rfl, ?_⟩) (by assumption) ?_
  rotate_left
  · (intro wz hSw; (try dsimp only at hSw); go_simp; try with_reducible rfl)
  simp only [Act.put, List.setIfInBounds_toArray, List.set_cons_zero, List.set_cons_succ]
  refine wpAnyH_ready (rs := [20]) (by kernel_rfl) (by simp) ?_
  refine AllReadyH.cons (o := ({ dst := none, op := Op.store 27 (Operand.tmp 6) (Operand.tmp 48), type := 0, pos := "ref.go:89", after := #[{ on := 18, ground := Ground.data }, { on := 17, ground := Ground.chain }, { on := 0, ground := Ground.phase }, { on := 1, ground := Ground.phase }, { on := 2, ground := Ground.phase }, { on := 3, ground := Ground.phase }, { on := 4, ground := Ground.phase }, { on := 5, ground := Ground.phase }, { on := 6, ground := Ground.phase }, { on := 7, ground := Ground.phase }, { on := 8, ground := Ground.phase }, { on := 9, ground := Ground.phase }, { on := 10, ground := Ground.phase }, { on := 11, ground := Ground.phase }, { on := 12, ground := Ground.phase }, { on := 13, ground := Ground.phase }, { on := 14, ground := Ground.phase }, { on := 15, ground := Ground.phase }, { on := 16, ground := Ground.phase }, { on := 17, ground := Ground.phase }, { on := 18, ground := Ground.phase }, { on := 19, ground := Ground.phase }], guard := none } : Oper)) rfl (fun K hK => ?_) AllReadyH.nil
  have zz := (hHeld.2.2.2.2.2.2.2.2).out
  obtain ⟨s9, k9, n9, lo9, hi9, p9, zb, zf⟩ := zz.2.2.1
  have zc0 := zb.c0
  have zf0 := zf.f0
  have zc1 := zb.c1
  have zf1 := zf.f1
  have zc2 := zb.c2
  have zf2 := zf.f2
  have zc3 := zb.c3
  have zf3 := zf.f3
  have zc4 := zb.c4
  have zf4 := zf.f4
  have zc5 := zb.c5
  have zf5 := zf.f5
  go_simp
  have zw := zb.wrote (up r.1.s) r.1.k r.1.n r.1.lo r.1.hi (up r.1.p)
  have hZ := st6_below zz.2.2.2.1 (N + 1 + 1) (by omega) (.int .i64 (up r.1.s)) (.bool r.1.k) (.int .i64 r.1.n) (.int .i64 r.1.lo) (.int .i64 r.1.hi) (.int .i64 (up r.1.p))
  refine hK.out _ _ (HST.out _ hHeld) (fun _ => ?_)
  clear hK K zc0 zf0 zc1 zf1 zc2 zf2 zc3 zf3 zc4 zf4 zc5 zf5
  refine wpAnyH_take (i := 21) (oi := ({ dst := some 7, op := Op.assign (Operand.tmp 49), type := 4, pos := "ref.go:89", after := #[{ on := 19, ground := Ground.data }, { on := 20, ground := Ground.chain }, { on := 0, ground := Ground.phase }, { on := 1, ground := Ground.phase }, { on := 2, ground := Ground.phase }, { on := 3, ground := Ground.phase }, { on := 4, ground := Ground.phase }, { on := 5, ground := Ground.phase }, { on := 6, ground := Ground.phase }, { on := 7, ground := Ground.phase }, { on := 8, ground := Ground.phase }, { on := 9, ground := Ground.phase }, { on := 10, ground := Ground.phase }, { on := 11, ground := Ground.phase }, { on := 12, ground := Ground.phase }, { on := 13, ground := Ground.phase }, { on := 14, ground := Ground.phase }, { on := 15, ground := Ground.phase }, { on := 16, ground := Ground.phase }, { on := 17, ground := Ground.phase }, { on := 18, ground := Ground.phase }, { on := 19, ground := Ground.phase }, { on := 20, ground := Ground.phase }], guard := none } : Oper)) (v := ?_) rfl (by kernel_rfl) (by kernel_rfl) (by kernel_rfl) (fun _ _ _ h => h) (Or.inl ⟨by rfl, ?_⟩) (by assumption) ?_
  rotate_left
  · (intro wz hSw; (try dsimp only at hSw); go_simp; try with_reducible rfl)
  simp only [Act.put, List.setIfInBounds_toArray, List.set_cons_zero, List.set_cons_succ]
  refine wpAnyH_done (by kernel_rfl) ?_ _
  clear hS0 HCL HST hHeld g3 zz zb zf c3 c4 c5
  have b0 := zw.c0
  have b1 := zw.c1
  have b2 := zw.c2
  have b3 := zw.c3
  have b4 := zw.c4
  have b5 := zw.c5
  clear zw
  go_wp2
  refine bodyPost_ret (by simp [results, Tryz.results11, go_sem, *]; try rfl) rfl ⟨?_, by rw [← HN.out]; exact hZ⟩
  rfl
end Go.Proofs.YthiacdbjlkpfgaaGreatDoor
