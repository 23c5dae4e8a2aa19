import Derived.Test.YtfndahdnbkmkkaaFk2
namespace Go.Proofs.Ytfndahdnbkmkkaa
open Go.RowKit
set_option maxRecDepth 100000 in
set_option maxHeartbeats 16000000 in
theorem allr_V (x : V) (k1 k2 : Bool) (w : World) : Calls Try.prog 41 #[.agg #[.int .i64 (up x.s), .bool x.k, .int .i64 x.n, .int .i64 x.lo, .int .i64 x.hi, .int .i64 (up x.p)], .bool k1, .bool k2] w fun e w' => e = .returned (.tuple #[.agg #[.int .i64 (up (someV x (k1 && k2)).1.s), .bool (someV x (k1 && k2)).1.k, .int .i64 (someV x (k1 && k2)).1.n, .int .i64 (someV x (k1 && k2)).1.lo, .int .i64 (someV x (k1 && k2)).1.hi, .int .i64 (up (someV x (k1 && k2)).1.p)], .bool (someV x (k1 && k2)).2]) ∧ Below w.heap.size w w' := by
  by_cases hs : x.s = 0
  · have HR : Hid (someV x (k1 && k2) = (zeroV, false)) := by unfold Hid someV; rw [if_neg (fun t => t.2.1 hs)]
    generalize someV x (k1 && k2) = r at *
    have d1 : (up x.s == 0) = true := by rw [show (0 : Int) = up 0 from rfl, up_beq, beq_iff_eq]; exact hs
    clear hs
    have x0 : Br ((w.alloc (.cells #[.int .i64 (up x.s), .bool x.k, .int .i64 x.n, .int .i64 x.lo, .int .i64 x.hi, .int .i64 (up x.p)] 27)).alloc (.cells #[.int .i64 0, .bool false, .int .i64 0, .int .i64 0, .int .i64 0, .int .i64 0] 27)) (w.heap.size) (up x.s) x.k x.n x.lo x.hi (up x.p) := ((Br.new w (up x.s) x.k x.n x.lo x.hi (up x.p) 27)).keep ((Below.refl _ _).alloc (Nat.le_refl _) _)
    have x1 : Br ((w.alloc (.cells #[.int .i64 (up x.s), .bool x.k, .int .i64 x.n, .int .i64 x.lo, .int .i64 x.hi, .int .i64 (up x.p)] 27)).alloc (.cells #[.int .i64 0, .bool false, .int .i64 0, .int .i64 0, .int .i64 0, .int .i64 0] 27)) (w.heap.size + 1) 0 false 0 0 0 0 := (by simpa using Br.new (w.alloc (.cells #[.int .i64 (up x.s), .bool x.k, .int .i64 x.n, .int .i64 x.lo, .int .i64 x.hi, .int .i64 (up x.p)] 27)) 0 false 0 0 0 0 27 : Br ((w.alloc (.cells #[.int .i64 (up x.s), .bool x.k, .int .i64 x.n, .int .i64 x.lo, .int .i64 x.hi, .int .i64 (up x.p)] 27)).alloc (.cells #[.int .i64 0, .bool false, .int .i64 0, .int .i64 0, .int .i64 0, .int .i64 0] 27)) (w.heap.size + 1) 0 false 0 0 0 0)
    have xf : Fz ((w.alloc (.cells #[.int .i64 (up x.s), .bool x.k, .int .i64 x.n, .int .i64 x.lo, .int .i64 x.hi, .int .i64 (up x.p)] 27)).alloc (.cells #[.int .i64 0, .bool false, .int .i64 0, .int .i64 0, .int .i64 0, .int .i64 0] 27)) (w.heap.size + 1) := by simpa using Fz.new (w.alloc (.cells #[.int .i64 (up x.s), .bool x.k, .int .i64 x.n, .int .i64 x.lo, .int .i64 x.hi, .int .i64 (up x.p)] 27)) 0 false 0 0 0 0 27
    have xb : Below w.heap.size w ((w.alloc (.cells #[.int .i64 (up x.s), .bool x.k, .int .i64 x.n, .int .i64 x.lo, .int .i64 x.hi, .int .i64 (up x.p)] 27)).alloc (.cells #[.int .i64 0, .bool false, .int .i64 0, .int .i64 0, .int .i64 0, .int .i64 0] 27)) := (by repeat (first | exact Below.refl _ _ | (refine Below.drew ?_) | (refine below_drewN ?_ _) | (refine Below.setCell ?_ (by first | omega | (simp; done) | (simp; omega)) _) | (refine Below.alloc ?_ (by first | omega | (simp; done) | (simp; omega)) _) | (refine Below.trans ?_ (Below.mono (by assumption) (by first | omega | (simp; done) | (simp; omega))))))
    go_enter Try.func41, Try.ntmps41
    go_upto_region 1 with fail
    go_name_world W hW
    rw [hW] at x0 x1 xf xb
    clear hW
    obtain ⟨N, hN⟩ : ∃ N, N = w.heap.size := ⟨_, rfl⟩
    rw [← hN] at x0 x1 xf xb ⊢
    have HN : Hid (N = w.heap.size) := hN
    clear hN
    have HA := hide (And.intro x0 (And.intro x1 (And.intro xf xb)))
    clear x0 x1 xf xb
    have a0 := HA.out.1.c0
    have a1 := HA.out.1.c1
    have a2 := HA.out.1.c2
    have a3 := HA.out.1.c3
    have a4 := HA.out.1.c4
    have a5 := HA.out.1.c5
    have b0 := HA.out.2.1.c0
    have b1 := HA.out.2.1.c1
    have b2 := HA.out.2.1.c2
    have b3 := HA.out.2.1.c3
    have b4 := HA.out.2.1.c4
    have b5 := HA.out.2.1.c5
    have f0 := HA.out.2.2.1.f0
    have f1 := HA.out.2.2.1.f1
    have f2 := HA.out.2.2.1.f2
    have f3 := HA.out.2.2.1.f3
    have f4 := HA.out.2.2.1.f4
    have f5 := HA.out.2.2.1.f5
    go_wp2_with fail
    have zw := HA.out.2.1.wrote 0 false 0 0 0 0
    have hZ := st6_below HA.out.2.2.2 (N + 1) (Nat.le_succ _) (.int .i64 0) (.bool false) (.int .i64 0) (.int .i64 0) (.int .i64 0) (.int .i64 0)
    clear HA a0 a1 a2 a3 a4 a5 b0 b1 b2 b3 b4 b5 f0 f1 f2 f3 f4 f5
    have a0 := zw.c0
    have a1 := zw.c1
    have a2 := zw.c2
    have a3 := zw.c3
    have a4 := zw.c4
    have a5 := zw.c5
    clear zw
    refine bodyPost_ret (by simp [results, Try.results41, go_sem, *]; try rfl) rfl ⟨?_, by rw [← HN.out]; exact hZ⟩
    rw [HR.out] <;> rfl
  · by_cases hp : x.p = 0
    · have HR : Hid (someV x (k1 && k2) = (zeroV, false)) := by unfold Hid someV; rw [if_neg (fun t => t.2.2 hp)]
      generalize someV x (k1 && k2) = r at *
      have d1 : (up x.s == 0) = false := by rw [show (0 : Int) = up 0 from rfl, up_beq, beq_eq_false_iff_ne]; exact hs
      have d2 : (up x.p == 0) = true := by rw [show (0 : Int) = up 0 from rfl, up_beq, beq_iff_eq]; exact hp
      clear hs hp
      have x0 : Br ((w.alloc (.cells #[.int .i64 (up x.s), .bool x.k, .int .i64 x.n, .int .i64 x.lo, .int .i64 x.hi, .int .i64 (up x.p)] 27)).alloc (.cells #[.int .i64 0, .bool false, .int .i64 0, .int .i64 0, .int .i64 0, .int .i64 0] 27)) (w.heap.size) (up x.s) x.k x.n x.lo x.hi (up x.p) := ((Br.new w (up x.s) x.k x.n x.lo x.hi (up x.p) 27)).keep ((Below.refl _ _).alloc (Nat.le_refl _) _)
      have x1 : Br ((w.alloc (.cells #[.int .i64 (up x.s), .bool x.k, .int .i64 x.n, .int .i64 x.lo, .int .i64 x.hi, .int .i64 (up x.p)] 27)).alloc (.cells #[.int .i64 0, .bool false, .int .i64 0, .int .i64 0, .int .i64 0, .int .i64 0] 27)) (w.heap.size + 1) 0 false 0 0 0 0 := (by simpa using Br.new (w.alloc (.cells #[.int .i64 (up x.s), .bool x.k, .int .i64 x.n, .int .i64 x.lo, .int .i64 x.hi, .int .i64 (up x.p)] 27)) 0 false 0 0 0 0 27 : Br ((w.alloc (.cells #[.int .i64 (up x.s), .bool x.k, .int .i64 x.n, .int .i64 x.lo, .int .i64 x.hi, .int .i64 (up x.p)] 27)).alloc (.cells #[.int .i64 0, .bool false, .int .i64 0, .int .i64 0, .int .i64 0, .int .i64 0] 27)) (w.heap.size + 1) 0 false 0 0 0 0)
      have xf : Fz ((w.alloc (.cells #[.int .i64 (up x.s), .bool x.k, .int .i64 x.n, .int .i64 x.lo, .int .i64 x.hi, .int .i64 (up x.p)] 27)).alloc (.cells #[.int .i64 0, .bool false, .int .i64 0, .int .i64 0, .int .i64 0, .int .i64 0] 27)) (w.heap.size + 1) := by simpa using Fz.new (w.alloc (.cells #[.int .i64 (up x.s), .bool x.k, .int .i64 x.n, .int .i64 x.lo, .int .i64 x.hi, .int .i64 (up x.p)] 27)) 0 false 0 0 0 0 27
      have xb : Below w.heap.size w ((w.alloc (.cells #[.int .i64 (up x.s), .bool x.k, .int .i64 x.n, .int .i64 x.lo, .int .i64 x.hi, .int .i64 (up x.p)] 27)).alloc (.cells #[.int .i64 0, .bool false, .int .i64 0, .int .i64 0, .int .i64 0, .int .i64 0] 27)) := (by repeat (first | exact Below.refl _ _ | (refine Below.drew ?_) | (refine below_drewN ?_ _) | (refine Below.setCell ?_ (by first | omega | (simp; done) | (simp; omega)) _) | (refine Below.alloc ?_ (by first | omega | (simp; done) | (simp; omega)) _) | (refine Below.trans ?_ (Below.mono (by assumption) (by first | omega | (simp; done) | (simp; omega))))))
      go_enter Try.func41, Try.ntmps41
      go_upto_region 1 with fail
      go_name_world W hW
      rw [hW] at x0 x1 xf xb
      clear hW
      obtain ⟨N, hN⟩ : ∃ N, N = w.heap.size := ⟨_, rfl⟩
      rw [← hN] at x0 x1 xf xb ⊢
      have HN : Hid (N = w.heap.size) := hN
      clear hN
      have HA := hide (And.intro x0 (And.intro x1 (And.intro xf xb)))
      clear x0 x1 xf xb
      have a0 := HA.out.1.c0
      have a1 := HA.out.1.c1
      have a2 := HA.out.1.c2
      have a3 := HA.out.1.c3
      have a4 := HA.out.1.c4
      have a5 := HA.out.1.c5
      have b0 := HA.out.2.1.c0
      have b1 := HA.out.2.1.c1
      have b2 := HA.out.2.1.c2
      have b3 := HA.out.2.1.c3
      have b4 := HA.out.2.1.c4
      have b5 := HA.out.2.1.c5
      have f0 := HA.out.2.2.1.f0
      have f1 := HA.out.2.2.1.f1
      have f2 := HA.out.2.2.1.f2
      have f3 := HA.out.2.2.1.f3
      have f4 := HA.out.2.2.1.f4
      have f5 := HA.out.2.2.1.f5
      go_wp2_with fail
      have zw := HA.out.2.1.wrote 0 false 0 0 0 0
      have hZ := st6_below HA.out.2.2.2 (N + 1) (Nat.le_succ _) (.int .i64 0) (.bool false) (.int .i64 0) (.int .i64 0) (.int .i64 0) (.int .i64 0)
      clear HA a0 a1 a2 a3 a4 a5 b0 b1 b2 b3 b4 b5 f0 f1 f2 f3 f4 f5
      have a0 := zw.c0
      have a1 := zw.c1
      have a2 := zw.c2
      have a3 := zw.c3
      have a4 := zw.c4
      have a5 := zw.c5
      clear zw
      refine bodyPost_ret (by simp [results, Try.results41, go_sem, *]; try rfl) rfl ⟨?_, by rw [← HN.out]; exact hZ⟩
      rw [HR.out] <;> rfl
    · cases k1
      · have HR : Hid (someV x (false && k2) = (zeroV, false)) := by unfold Hid someV; rw [if_neg (by simp)]
        generalize someV x (false && k2) = r at *
        have d1 : (up x.s == 0) = false := by rw [show (0 : Int) = up 0 from rfl, up_beq, beq_eq_false_iff_ne]; exact hs
        have d2 : (up x.p == 0) = false := by rw [show (0 : Int) = up 0 from rfl, up_beq, beq_eq_false_iff_ne]; exact hp
        clear hs hp
        have x0 : Br ((w.alloc (.cells #[.int .i64 (up x.s), .bool x.k, .int .i64 x.n, .int .i64 x.lo, .int .i64 x.hi, .int .i64 (up x.p)] 27)).alloc (.cells #[.int .i64 0, .bool false, .int .i64 0, .int .i64 0, .int .i64 0, .int .i64 0] 27)) (w.heap.size) (up x.s) x.k x.n x.lo x.hi (up x.p) := ((Br.new w (up x.s) x.k x.n x.lo x.hi (up x.p) 27)).keep ((Below.refl _ _).alloc (Nat.le_refl _) _)
        have x1 : Br ((w.alloc (.cells #[.int .i64 (up x.s), .bool x.k, .int .i64 x.n, .int .i64 x.lo, .int .i64 x.hi, .int .i64 (up x.p)] 27)).alloc (.cells #[.int .i64 0, .bool false, .int .i64 0, .int .i64 0, .int .i64 0, .int .i64 0] 27)) (w.heap.size + 1) 0 false 0 0 0 0 := (by simpa using Br.new (w.alloc (.cells #[.int .i64 (up x.s), .bool x.k, .int .i64 x.n, .int .i64 x.lo, .int .i64 x.hi, .int .i64 (up x.p)] 27)) 0 false 0 0 0 0 27 : Br ((w.alloc (.cells #[.int .i64 (up x.s), .bool x.k, .int .i64 x.n, .int .i64 x.lo, .int .i64 x.hi, .int .i64 (up x.p)] 27)).alloc (.cells #[.int .i64 0, .bool false, .int .i64 0, .int .i64 0, .int .i64 0, .int .i64 0] 27)) (w.heap.size + 1) 0 false 0 0 0 0)
        have xf : Fz ((w.alloc (.cells #[.int .i64 (up x.s), .bool x.k, .int .i64 x.n, .int .i64 x.lo, .int .i64 x.hi, .int .i64 (up x.p)] 27)).alloc (.cells #[.int .i64 0, .bool false, .int .i64 0, .int .i64 0, .int .i64 0, .int .i64 0] 27)) (w.heap.size + 1) := by simpa using Fz.new (w.alloc (.cells #[.int .i64 (up x.s), .bool x.k, .int .i64 x.n, .int .i64 x.lo, .int .i64 x.hi, .int .i64 (up x.p)] 27)) 0 false 0 0 0 0 27
        have xb : Below w.heap.size w ((w.alloc (.cells #[.int .i64 (up x.s), .bool x.k, .int .i64 x.n, .int .i64 x.lo, .int .i64 x.hi, .int .i64 (up x.p)] 27)).alloc (.cells #[.int .i64 0, .bool false, .int .i64 0, .int .i64 0, .int .i64 0, .int .i64 0] 27)) := (by repeat (first | exact Below.refl _ _ | (refine Below.drew ?_) | (refine below_drewN ?_ _) | (refine Below.setCell ?_ (by first | omega | (simp; done) | (simp; omega)) _) | (refine Below.alloc ?_ (by first | omega | (simp; done) | (simp; omega)) _) | (refine Below.trans ?_ (Below.mono (by assumption) (by first | omega | (simp; done) | (simp; omega))))))
        go_enter Try.func41, Try.ntmps41
        go_upto_region 1 with fail
        go_name_world W hW
        rw [hW] at x0 x1 xf xb
        clear hW
        obtain ⟨N, hN⟩ : ∃ N, N = w.heap.size := ⟨_, rfl⟩
        rw [← hN] at x0 x1 xf xb ⊢
        have HN : Hid (N = w.heap.size) := hN
        clear hN
        have HA := hide (And.intro x0 (And.intro x1 (And.intro xf xb)))
        clear x0 x1 xf xb
        have a0 := HA.out.1.c0
        have a1 := HA.out.1.c1
        have a2 := HA.out.1.c2
        have a3 := HA.out.1.c3
        have a4 := HA.out.1.c4
        have a5 := HA.out.1.c5
        have b0 := HA.out.2.1.c0
        have b1 := HA.out.2.1.c1
        have b2 := HA.out.2.1.c2
        have b3 := HA.out.2.1.c3
        have b4 := HA.out.2.1.c4
        have b5 := HA.out.2.1.c5
        have f0 := HA.out.2.2.1.f0
        have f1 := HA.out.2.2.1.f1
        have f2 := HA.out.2.2.1.f2
        have f3 := HA.out.2.2.1.f3
        have f4 := HA.out.2.2.1.f4
        have f5 := HA.out.2.2.1.f5
        go_wp2_with fail
        have zw := HA.out.2.1.wrote 0 false 0 0 0 0
        have hZ := st6_below HA.out.2.2.2 (N + 1) (Nat.le_succ _) (.int .i64 0) (.bool false) (.int .i64 0) (.int .i64 0) (.int .i64 0) (.int .i64 0)
        clear HA a0 a1 a2 a3 a4 a5 b0 b1 b2 b3 b4 b5 f0 f1 f2 f3 f4 f5
        have a0 := zw.c0
        have a1 := zw.c1
        have a2 := zw.c2
        have a3 := zw.c3
        have a4 := zw.c4
        have a5 := zw.c5
        clear zw
        refine bodyPost_ret (by simp [results, Try.results41, go_sem, *]; try rfl) rfl ⟨?_, by rw [← HN.out]; exact hZ⟩
        rw [HR.out] <;> rfl
      · cases k2
        · have HR : Hid (someV x (true && false) = (zeroV, false)) := by unfold Hid someV; rw [if_neg (by simp)]
          generalize someV x (true && false) = r at *
          have d1 : (up x.s == 0) = false := by rw [show (0 : Int) = up 0 from rfl, up_beq, beq_eq_false_iff_ne]; exact hs
          have d2 : (up x.p == 0) = false := by rw [show (0 : Int) = up 0 from rfl, up_beq, beq_eq_false_iff_ne]; exact hp
          clear hs hp
          have x0 : Br ((w.alloc (.cells #[.int .i64 (up x.s), .bool x.k, .int .i64 x.n, .int .i64 x.lo, .int .i64 x.hi, .int .i64 (up x.p)] 27)).alloc (.cells #[.int .i64 0, .bool false, .int .i64 0, .int .i64 0, .int .i64 0, .int .i64 0] 27)) (w.heap.size) (up x.s) x.k x.n x.lo x.hi (up x.p) := ((Br.new w (up x.s) x.k x.n x.lo x.hi (up x.p) 27)).keep ((Below.refl _ _).alloc (Nat.le_refl _) _)
          have x1 : Br ((w.alloc (.cells #[.int .i64 (up x.s), .bool x.k, .int .i64 x.n, .int .i64 x.lo, .int .i64 x.hi, .int .i64 (up x.p)] 27)).alloc (.cells #[.int .i64 0, .bool false, .int .i64 0, .int .i64 0, .int .i64 0, .int .i64 0] 27)) (w.heap.size + 1) 0 false 0 0 0 0 := (by simpa using Br.new (w.alloc (.cells #[.int .i64 (up x.s), .bool x.k, .int .i64 x.n, .int .i64 x.lo, .int .i64 x.hi, .int .i64 (up x.p)] 27)) 0 false 0 0 0 0 27 : Br ((w.alloc (.cells #[.int .i64 (up x.s), .bool x.k, .int .i64 x.n, .int .i64 x.lo, .int .i64 x.hi, .int .i64 (up x.p)] 27)).alloc (.cells #[.int .i64 0, .bool false, .int .i64 0, .int .i64 0, .int .i64 0, .int .i64 0] 27)) (w.heap.size + 1) 0 false 0 0 0 0)
          have xf : Fz ((w.alloc (.cells #[.int .i64 (up x.s), .bool x.k, .int .i64 x.n, .int .i64 x.lo, .int .i64 x.hi, .int .i64 (up x.p)] 27)).alloc (.cells #[.int .i64 0, .bool false, .int .i64 0, .int .i64 0, .int .i64 0, .int .i64 0] 27)) (w.heap.size + 1) := by simpa using Fz.new (w.alloc (.cells #[.int .i64 (up x.s), .bool x.k, .int .i64 x.n, .int .i64 x.lo, .int .i64 x.hi, .int .i64 (up x.p)] 27)) 0 false 0 0 0 0 27
          have xb : Below w.heap.size w ((w.alloc (.cells #[.int .i64 (up x.s), .bool x.k, .int .i64 x.n, .int .i64 x.lo, .int .i64 x.hi, .int .i64 (up x.p)] 27)).alloc (.cells #[.int .i64 0, .bool false, .int .i64 0, .int .i64 0, .int .i64 0, .int .i64 0] 27)) := (by repeat (first | exact Below.refl _ _ | (refine Below.drew ?_) | (refine below_drewN ?_ _) | (refine Below.setCell ?_ (by first | omega | (simp; done) | (simp; omega)) _) | (refine Below.alloc ?_ (by first | omega | (simp; done) | (simp; omega)) _) | (refine Below.trans ?_ (Below.mono (by assumption) (by first | omega | (simp; done) | (simp; omega))))))
          go_enter Try.func41, Try.ntmps41
          go_upto_region 1 with fail
          go_name_world W hW
          rw [hW] at x0 x1 xf xb
          clear hW
          obtain ⟨N, hN⟩ : ∃ N, N = w.heap.size := ⟨_, rfl⟩
          rw [← hN] at x0 x1 xf xb ⊢
          have HN : Hid (N = w.heap.size) := hN
          clear hN
          have HA := hide (And.intro x0 (And.intro x1 (And.intro xf xb)))
          clear x0 x1 xf xb
          have a0 := HA.out.1.c0
          have a1 := HA.out.1.c1
          have a2 := HA.out.1.c2
          have a3 := HA.out.1.c3
          have a4 := HA.out.1.c4
          have a5 := HA.out.1.c5
          have b0 := HA.out.2.1.c0
          have b1 := HA.out.2.1.c1
          have b2 := HA.out.2.1.c2
          have b3 := HA.out.2.1.c3
          have b4 := HA.out.2.1.c4
          have b5 := HA.out.2.1.c5
          have f0 := HA.out.2.2.1.f0
          have f1 := HA.out.2.2.1.f1
          have f2 := HA.out.2.2.1.f2
          have f3 := HA.out.2.2.1.f3
          have f4 := HA.out.2.2.1.f4
          have f5 := HA.out.2.2.1.f5
          go_wp2_with fail
          have zw := HA.out.2.1.wrote 0 false 0 0 0 0
          have hZ := st6_below HA.out.2.2.2 (N + 1) (Nat.le_succ _) (.int .i64 0) (.bool false) (.int .i64 0) (.int .i64 0) (.int .i64 0) (.int .i64 0)
          clear HA a0 a1 a2 a3 a4 a5 b0 b1 b2 b3 b4 b5 f0 f1 f2 f3 f4 f5
          have a0 := zw.c0
          have a1 := zw.c1
          have a2 := zw.c2
          have a3 := zw.c3
          have a4 := zw.c4
          have a5 := zw.c5
          clear zw
          refine bodyPost_ret (by simp [results, Try.results41, go_sem, *]; try rfl) rfl ⟨?_, by rw [← HN.out]; exact hZ⟩
          rw [HR.out] <;> rfl
        · have HR : Hid (someV x (true && true) = (x, true)) := by unfold Hid someV; rw [if_pos ⟨rfl, hs, hp⟩]
          generalize someV x (true && true) = r at *
          have d1 : (up x.s == 0) = false := by rw [show (0 : Int) = up 0 from rfl, up_beq, beq_eq_false_iff_ne]; exact hs
          have d2 : (up x.p == 0) = false := by rw [show (0 : Int) = up 0 from rfl, up_beq, beq_eq_false_iff_ne]; exact hp
          clear hs hp
          have x0 : Br ((w.alloc (.cells #[.int .i64 (up x.s), .bool x.k, .int .i64 x.n, .int .i64 x.lo, .int .i64 x.hi, .int .i64 (up x.p)] 27)).alloc (.cells #[.int .i64 0, .bool false, .int .i64 0, .int .i64 0, .int .i64 0, .int .i64 0] 27)) (w.heap.size) (up x.s) x.k x.n x.lo x.hi (up x.p) := ((Br.new w (up x.s) x.k x.n x.lo x.hi (up x.p) 27)).keep ((Below.refl _ _).alloc (Nat.le_refl _) _)
          have x1 : Br ((w.alloc (.cells #[.int .i64 (up x.s), .bool x.k, .int .i64 x.n, .int .i64 x.lo, .int .i64 x.hi, .int .i64 (up x.p)] 27)).alloc (.cells #[.int .i64 0, .bool false, .int .i64 0, .int .i64 0, .int .i64 0, .int .i64 0] 27)) (w.heap.size + 1) 0 false 0 0 0 0 := (by simpa using Br.new (w.alloc (.cells #[.int .i64 (up x.s), .bool x.k, .int .i64 x.n, .int .i64 x.lo, .int .i64 x.hi, .int .i64 (up x.p)] 27)) 0 false 0 0 0 0 27 : Br ((w.alloc (.cells #[.int .i64 (up x.s), .bool x.k, .int .i64 x.n, .int .i64 x.lo, .int .i64 x.hi, .int .i64 (up x.p)] 27)).alloc (.cells #[.int .i64 0, .bool false, .int .i64 0, .int .i64 0, .int .i64 0, .int .i64 0] 27)) (w.heap.size + 1) 0 false 0 0 0 0)
          have xf : Fz ((w.alloc (.cells #[.int .i64 (up x.s), .bool x.k, .int .i64 x.n, .int .i64 x.lo, .int .i64 x.hi, .int .i64 (up x.p)] 27)).alloc (.cells #[.int .i64 0, .bool false, .int .i64 0, .int .i64 0, .int .i64 0, .int .i64 0] 27)) (w.heap.size + 1) := by simpa using Fz.new (w.alloc (.cells #[.int .i64 (up x.s), .bool x.k, .int .i64 x.n, .int .i64 x.lo, .int .i64 x.hi, .int .i64 (up x.p)] 27)) 0 false 0 0 0 0 27
          have xb : Below w.heap.size w ((w.alloc (.cells #[.int .i64 (up x.s), .bool x.k, .int .i64 x.n, .int .i64 x.lo, .int .i64 x.hi, .int .i64 (up x.p)] 27)).alloc (.cells #[.int .i64 0, .bool false, .int .i64 0, .int .i64 0, .int .i64 0, .int .i64 0] 27)) := (by repeat (first | exact Below.refl _ _ | (refine Below.drew ?_) | (refine below_drewN ?_ _) | (refine Below.setCell ?_ (by first | omega | (simp; done) | (simp; omega)) _) | (refine Below.alloc ?_ (by first | omega | (simp; done) | (simp; omega)) _) | (refine Below.trans ?_ (Below.mono (by assumption) (by first | omega | (simp; done) | (simp; omega))))))
          go_enter Try.func41, Try.ntmps41
          go_upto_region 1 with fail
          go_name_world W hW
          rw [hW] at x0 x1 xf xb
          clear hW
          obtain ⟨N, hN⟩ : ∃ N, N = w.heap.size := ⟨_, rfl⟩
          rw [← hN] at x0 x1 xf xb ⊢
          have HN : Hid (N = w.heap.size) := hN
          clear hN
          have HA := hide (And.intro x0 (And.intro x1 (And.intro xf xb)))
          clear x0 x1 xf xb
          have a0 := HA.out.1.c0
          have a1 := HA.out.1.c1
          have a2 := HA.out.1.c2
          have a3 := HA.out.1.c3
          have a4 := HA.out.1.c4
          have a5 := HA.out.1.c5
          have b0 := HA.out.2.1.c0
          have b1 := HA.out.2.1.c1
          have b2 := HA.out.2.1.c2
          have b3 := HA.out.2.1.c3
          have b4 := HA.out.2.1.c4
          have b5 := HA.out.2.1.c5
          have f0 := HA.out.2.2.1.f0
          have f1 := HA.out.2.2.1.f1
          have f2 := HA.out.2.2.1.f2
          have f3 := HA.out.2.2.1.f3
          have f4 := HA.out.2.2.1.f4
          have f5 := HA.out.2.2.1.f5
          go_wp2_with fail
          have zw := HA.out.2.1.wrote (up x.s) x.k x.n x.lo x.hi (up x.p)
          have hZ := st6_below HA.out.2.2.2 (N + 1) (Nat.le_succ _) (.int .i64 (up x.s)) (.bool x.k) (.int .i64 x.n) (.int .i64 x.lo) (.int .i64 x.hi) (.int .i64 (up x.p))
          clear HA a0 a1 a2 a3 a4 a5 b0 b1 b2 b3 b4 b5 f0 f1 f2 f3 f4 f5
          have a0 := zw.c0
          have a1 := zw.c1
          have a2 := zw.c2
          have a3 := zw.c3
          have a4 := zw.c4
          have a5 := zw.c5
          clear zw
          refine bodyPost_ret (by simp [results, Try.results41, go_sem, *]; try rfl) rfl ⟨?_, by rw [← HN.out]; exact hZ⟩
          rw [HR.out] <;> rfl
set_option maxRecDepth 100000 in
set_option maxHeartbeats 16000000 in
theorem meetr_V (x y : V) (w : World) : Calls Try.prog 11 #[.agg #[.int .i64 (up x.s), .bool x.k, .int .i64 x.n, .int .i64 x.lo, .int .i64 x.hi, .int .i64 (up x.p)], .agg #[.int .i64 (up y.s), .bool y.k, .int .i64 y.n, .int .i64 y.lo, .int .i64 y.hi, .int .i64 (up y.p)]] w fun e w' => e = .returned (.tuple #[.agg #[.int .i64 (up (meetV x y).1.s), .bool (meetV x y).1.k, .int .i64 (meetV x y).1.n, .int .i64 (meetV x y).1.lo, .int .i64 (meetV x y).1.hi, .int .i64 (up (meetV x y).1.p)], .bool (meetV x y).2]) ∧ Below w.heap.size w w' := by
  have HR := hide (some_meet x y)
  generalize meetV x y = r at *
  have e1 := and_upup x.s y.s
  have e2 := and_upup x.p y.p
  have c1 := fun w => kmeetr_any x.k x.n y.k y.n w
  have c2 := fun w => bel4 (nmeetr_any (x.lo, x.hi) (y.lo, y.hi) w)
  dsimp only at c2
  generalize meetP (x.lo, x.hi) (y.lo, y.hi) = m at *
  generalize meetOk x.k x.n y.k y.n = t1 at *
  generalize meetI x.k x.n y.k y.n = mI at *
  generalize meetN x.k x.n y.k y.n = mN at *
  have x0 : Br (((w.alloc (.cells #[.int .i64 (up x.s), .bool x.k, .int .i64 x.n, .int .i64 x.lo, .int .i64 x.hi, .int .i64 (up x.p)] 27)).alloc (.cells #[.int .i64 (up y.s), .bool y.k, .int .i64 y.n, .int .i64 y.lo, .int .i64 y.hi, .int .i64 (up y.p)] 27)).alloc (.cells #[.int .i64 0, .bool false, .int .i64 0, .int .i64 0, .int .i64 0, .int .i64 0] 27)) (w.heap.size) (up x.s) x.k x.n x.lo x.hi (up x.p) := (((Br.new w (up x.s) x.k x.n x.lo x.hi (up x.p) 27)).keep ((Below.refl _ _).alloc (Nat.le_refl _) _)).keep ((Below.refl _ _).alloc (Nat.le_refl _) _)
  have x1 : Br (((w.alloc (.cells #[.int .i64 (up x.s), .bool x.k, .int .i64 x.n, .int .i64 x.lo, .int .i64 x.hi, .int .i64 (up x.p)] 27)).alloc (.cells #[.int .i64 (up y.s), .bool y.k, .int .i64 y.n, .int .i64 y.lo, .int .i64 y.hi, .int .i64 (up y.p)] 27)).alloc (.cells #[.int .i64 0, .bool false, .int .i64 0, .int .i64 0, .int .i64 0, .int .i64 0] 27)) (w.heap.size + 1) (up y.s) y.k y.n y.lo y.hi (up y.p) := ((by simpa using Br.new (w.alloc (.cells #[.int .i64 (up x.s), .bool x.k, .int .i64 x.n, .int .i64 x.lo, .int .i64 x.hi, .int .i64 (up x.p)] 27)) (up y.s) y.k y.n y.lo y.hi (up y.p) 27 : Br ((w.alloc (.cells #[.int .i64 (up x.s), .bool x.k, .int .i64 x.n, .int .i64 x.lo, .int .i64 x.hi, .int .i64 (up x.p)] 27)).alloc (.cells #[.int .i64 (up y.s), .bool y.k, .int .i64 y.n, .int .i64 y.lo, .int .i64 y.hi, .int .i64 (up y.p)] 27)) (w.heap.size + 1) (up y.s) y.k y.n y.lo y.hi (up y.p))).keep ((Below.refl _ _).alloc (Nat.le_refl _) _)
  have x2 : Br (((w.alloc (.cells #[.int .i64 (up x.s), .bool x.k, .int .i64 x.n, .int .i64 x.lo, .int .i64 x.hi, .int .i64 (up x.p)] 27)).alloc (.cells #[.int .i64 (up y.s), .bool y.k, .int .i64 y.n, .int .i64 y.lo, .int .i64 y.hi, .int .i64 (up y.p)] 27)).alloc (.cells #[.int .i64 0, .bool false, .int .i64 0, .int .i64 0, .int .i64 0, .int .i64 0] 27)) (w.heap.size + 1 + 1) 0 false 0 0 0 0 := (by simpa using Br.new ((w.alloc (.cells #[.int .i64 (up x.s), .bool x.k, .int .i64 x.n, .int .i64 x.lo, .int .i64 x.hi, .int .i64 (up x.p)] 27)).alloc (.cells #[.int .i64 (up y.s), .bool y.k, .int .i64 y.n, .int .i64 y.lo, .int .i64 y.hi, .int .i64 (up y.p)] 27)) 0 false 0 0 0 0 27 : Br (((w.alloc (.cells #[.int .i64 (up x.s), .bool x.k, .int .i64 x.n, .int .i64 x.lo, .int .i64 x.hi, .int .i64 (up x.p)] 27)).alloc (.cells #[.int .i64 (up y.s), .bool y.k, .int .i64 y.n, .int .i64 y.lo, .int .i64 y.hi, .int .i64 (up y.p)] 27)).alloc (.cells #[.int .i64 0, .bool false, .int .i64 0, .int .i64 0, .int .i64 0, .int .i64 0] 27)) (w.heap.size + 1 + 1) 0 false 0 0 0 0)
  have xf : Fz (((w.alloc (.cells #[.int .i64 (up x.s), .bool x.k, .int .i64 x.n, .int .i64 x.lo, .int .i64 x.hi, .int .i64 (up x.p)] 27)).alloc (.cells #[.int .i64 (up y.s), .bool y.k, .int .i64 y.n, .int .i64 y.lo, .int .i64 y.hi, .int .i64 (up y.p)] 27)).alloc (.cells #[.int .i64 0, .bool false, .int .i64 0, .int .i64 0, .int .i64 0, .int .i64 0] 27)) (w.heap.size + 1 + 1) := by simpa using Fz.new ((w.alloc (.cells #[.int .i64 (up x.s), .bool x.k, .int .i64 x.n, .int .i64 x.lo, .int .i64 x.hi, .int .i64 (up x.p)] 27)).alloc (.cells #[.int .i64 (up y.s), .bool y.k, .int .i64 y.n, .int .i64 y.lo, .int .i64 y.hi, .int .i64 (up y.p)] 27)) 0 false 0 0 0 0 27
  have xb : Below w.heap.size w (((w.alloc (.cells #[.int .i64 (up x.s), .bool x.k, .int .i64 x.n, .int .i64 x.lo, .int .i64 x.hi, .int .i64 (up x.p)] 27)).alloc (.cells #[.int .i64 (up y.s), .bool y.k, .int .i64 y.n, .int .i64 y.lo, .int .i64 y.hi, .int .i64 (up y.p)] 27)).alloc (.cells #[.int .i64 0, .bool false, .int .i64 0, .int .i64 0, .int .i64 0, .int .i64 0] 27)) := (by repeat (first | exact Below.refl _ _ | (refine Below.drew ?_) | (refine below_drewN ?_ _) | (refine Below.setCell ?_ (by first | omega | (simp; done) | (simp; omega)) _) | (refine Below.alloc ?_ (by first | omega | (simp; done) | (simp; omega)) _) | (refine Below.trans ?_ (Below.mono (by assumption) (by first | omega | (simp; done) | (simp; omega))))))
  go_enter Try.func11, Try.ntmps11
  go_upto_region 1 with fail
  go_name_world W hW
  rw [hW] at x0 x1 x2 xf xb
  clear hW
  obtain ⟨N, hN⟩ : ∃ N, N = w.heap.size := ⟨_, rfl⟩
  rw [← hN] at x0 x1 x2 xf xb ⊢
  have HN : Hid (N = w.heap.size) := hN
  clear hN
  have HA := hide (And.intro x0 (And.intro x1 (And.intro x2 (And.intro xf xb))))
  clear x0 x1 x2 xf xb
  have a0 := HA.out.1.c0
  have a1 := HA.out.1.c1
  have a2 := HA.out.1.c2
  have a3 := HA.out.1.c3
  have a4 := HA.out.1.c4
  have a5 := HA.out.1.c5
  have b0 := HA.out.2.1.c0
  have b1 := HA.out.2.1.c1
  have b2 := HA.out.2.1.c2
  have b3 := HA.out.2.1.c3
  have b4 := HA.out.2.1.c4
  have b5 := HA.out.2.1.c5
  go_upto_region 2 with (go_at_call 39; refine (c1 _).mono ?_; rintro e wK ⟨rfl, hK⟩)
  go_name_world W2 hW2
  have HB : Hid (Br W2 N (up x.s) x.k x.n x.lo x.hi (up x.p) ∧ Br W2 (N + 1) (up y.s) y.k y.n y.lo y.hi (up y.p) ∧ Br W2 (N + 1 + 1) 0 false 0 0 0 0 ∧ Fz W2 (N + 1 + 1) ∧ Below N w W2 ∧ K2 W2 wK.heap.size mI mN) := by
    rw [← hW2]
    have k0 := HA.out.1.keep hK
    have k1 := HA.out.2.1.keep hK
    have k2 := HA.out.2.2.1.keep hK
    have k3 := HA.out.2.2.2.1.keep HA.out.2.2.1.lt hK
    have k4 := HA.out.2.2.2.2.trans (hK.mono (Nat.le_of_lt HA.out.1.lt))
    exact ⟨k0.keep ((Below.refl _ _).alloc (Nat.le_refl _) _), k1.keep ((Below.refl _ _).alloc (Nat.le_refl _) _), k2.keep ((Below.refl _ _).alloc (Nat.le_refl _) _), k3.keep k2.lt ((Below.refl _ _).alloc (Nat.le_refl _) _), k4.alloc (Nat.le_of_lt k0.lt) _, K2.new _ _ _ _⟩
  clear hW2 hK HA c1 a0 a1 a2 a3 a4 a5 b0 b1 b2 b3 b4 b5
  generalize wK.heap.size = T6 at *
  have a0 := HB.out.1.c0
  have a1 := HB.out.1.c1
  have a2 := HB.out.1.c2
  have a3 := HB.out.1.c3
  have a4 := HB.out.1.c4
  have a5 := HB.out.1.c5
  have b0 := HB.out.2.1.c0
  have b1 := HB.out.2.1.c1
  have b2 := HB.out.2.1.c2
  have b3 := HB.out.2.1.c3
  have b4 := HB.out.2.1.c4
  have b5 := HB.out.2.1.c5
  go_upto_region 3 with (go_at_call 40; refine (c2 _).mono ?_; rintro e wK ⟨rfl, hK⟩)
  go_name_world W3 hW3
  have HC : Hid (Br W3 N (up x.s) x.k x.n x.lo x.hi (up x.p) ∧ Br W3 (N + 1) (up y.s) y.k y.n y.lo y.hi (up y.p) ∧ Br W3 (N + 1 + 1) 0 false 0 0 0 0 ∧ Fz W3 (N + 1 + 1) ∧ Below N w W3 ∧ K2 W3 T6 mI mN ∧ S2 W3 wK.heap.size m.1.1 m.1.2) := by
    rw [← hW3]
    have k0 := HB.out.1.keep hK
    have k1 := HB.out.2.1.keep hK
    have k2 := HB.out.2.2.1.keep hK
    have k3 := HB.out.2.2.2.1.keep HB.out.2.2.1.lt hK
    have k4 := HB.out.2.2.2.2.1.trans (hK.mono (Nat.le_of_lt HB.out.1.lt))
    have k5 := HB.out.2.2.2.2.2.keep hK
    exact ⟨k0.keep ((Below.refl _ _).alloc (Nat.le_refl _) _), k1.keep ((Below.refl _ _).alloc (Nat.le_refl _) _), k2.keep ((Below.refl _ _).alloc (Nat.le_refl _) _), k3.keep k2.lt ((Below.refl _ _).alloc (Nat.le_refl _) _), k4.alloc (Nat.le_of_lt k0.lt) _, k5.keep ((Below.refl _ _).alloc (Nat.le_refl _) _), S2.new _ _ _ _⟩
  clear hW3 hK HB c2 a0 a1 a2 a3 a4 a5 b0 b1 b2 b3 b4 b5
  generalize wK.heap.size = T8 at *
  have a0 := HC.out.1.c0
  have a1 := HC.out.1.c1
  have a2 := HC.out.1.c2
  have a3 := HC.out.1.c3
  have a4 := HC.out.1.c4
  have a5 := HC.out.1.c5
  have b0 := HC.out.2.1.c0
  have b1 := HC.out.2.1.c1
  have b2 := HC.out.2.1.c2
  have b3 := HC.out.2.1.c3
  have b4 := HC.out.2.1.c4
  have b5 := HC.out.2.1.c5
  have p0 := HC.out.2.2.2.2.2.1.1
  have p1 := HC.out.2.2.2.2.2.1.2
  have p2 := HC.out.2.2.2.2.2.2.1
  have p3 := HC.out.2.2.2.2.2.2.2
  have c4 := fun w => allr_V ⟨x.s &&& y.s, mI, mN, m.1.1, m.1.2, x.p &&& y.p⟩ t1 m.2 w
  rw [HR.out] at c4
  go_wp2_with (go_at_call 41; refine (c4 _).mono ?_; rintro e wK ⟨rfl, hK⟩; clear a0 a1 a2 a3 a4 a5 b0 b1 b2 b3 b4 b5 p0 p1 p2 p3; have k2 := HC.out.2.2.1.keep hK; have k3 := HC.out.2.2.2.1.keep HC.out.2.2.1.lt hK; have k4 := HC.out.2.2.2.2.1.trans (hK.mono (Nat.le_of_lt HC.out.1.lt)); have b0 := k2.c0; have b1 := k2.c1; have b2 := k2.c2; have b3 := k2.c3; have b4 := k2.c4; have b5 := k2.c5; have f0 := k3.f0; have f1 := k3.f1; have f2 := k3.f2; have f3 := k3.f3; have f4 := k3.f4; have f5 := k3.f5)
  have zw := k2.wrote (up r.1.s) r.1.k r.1.n r.1.lo r.1.hi (up r.1.p)
  have hZ := st6_below k4 (N + 1 + 1) (Nat.le_trans (Nat.le_succ _) (Nat.le_succ _)) (.int .i64 (up r.1.s)) (.bool r.1.k) (.int .i64 r.1.n) (.int .i64 r.1.lo) (.int .i64 r.1.hi) (.int .i64 (up r.1.p))
  clear c4 HC hK k2 k3 k4 e1 e2 b0 b1 b2 b3 b4 b5 f0 f1 f2 f3 f4 f5
  have a0 := zw.c0
  have a1 := zw.c1
  have a2 := zw.c2
  have a3 := zw.c3
  have a4 := zw.c4
  have a5 := zw.c5
  clear zw
  refine bodyPost_ret (by simp [results, Try.results11, go_sem, *]; try rfl) rfl ⟨?_, by rw [← HN.out]; exact hZ⟩
  rfl
end Go.Proofs.Ytfndahdnbkmkkaa
