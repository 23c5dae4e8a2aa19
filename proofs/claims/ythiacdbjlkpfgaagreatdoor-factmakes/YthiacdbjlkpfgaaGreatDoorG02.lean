import Derived.Test.YthiacdbjlkpfgaaGreatDoorG01
namespace Go.Proofs.YthiacdbjlkpfgaaGreatDoor
open Go.RowKit
def someV (x : V) (is : Bool) : V × Bool := if is = true ∧ x.s ≠ 0 ∧ x.p ≠ 0 then (x, true) else (zeroV, false)
set_option maxRecDepth 100000 in
set_option maxHeartbeats 16000000 in
theorem some_V (x : V) (is : Bool) (w : World) : Calls Tryz.prog 20 #[.agg #[.int .i64 (up x.s), .bool x.k, .int .i64 x.n, .int .i64 x.lo, .int .i64 x.hi, .int .i64 (up x.p)], .bool is] w fun e w' => e = .returned (.tuple #[.agg #[.int .i64 (up (someV x is).1.s), .bool (someV x is).1.k, .int .i64 (someV x is).1.n, .int .i64 (someV x is).1.lo, .int .i64 (someV x is).1.hi, .int .i64 (up (someV x is).1.p)], .bool (someV x is).2]) ∧ Below w.heap.size w w' := by
  cases is
  · have HR : Hid (someV x false = (zeroV, false)) := by unfold Hid someV; rw [if_neg (by simp)]
    generalize someV x false = r at *
    have x0 : Br ((w.alloc (.cells #[.int .i64 (up x.s), .bool x.k, .int .i64 x.n, .int .i64 x.lo, .int .i64 x.hi, .int .i64 (up x.p)] 32)).alloc (.cells #[.int .i64 0, .bool false, .int .i64 0, .int .i64 0, .int .i64 0, .int .i64 0] 32)) (w.heap.size) (up x.s) x.k x.n x.lo x.hi (up x.p) := ((Br.new w (up x.s) x.k x.n x.lo x.hi (up x.p) 32)).keep ((Below.refl _ _).alloc (Nat.le_refl _) _)
    have x1 : Br ((w.alloc (.cells #[.int .i64 (up x.s), .bool x.k, .int .i64 x.n, .int .i64 x.lo, .int .i64 x.hi, .int .i64 (up x.p)] 32)).alloc (.cells #[.int .i64 0, .bool false, .int .i64 0, .int .i64 0, .int .i64 0, .int .i64 0] 32)) (w.heap.size + 1) 0 false 0 0 0 0 := (by simpa using Br.new (w.alloc (.cells #[.int .i64 (up x.s), .bool x.k, .int .i64 x.n, .int .i64 x.lo, .int .i64 x.hi, .int .i64 (up x.p)] 32)) 0 false 0 0 0 0 32 : Br ((w.alloc (.cells #[.int .i64 (up x.s), .bool x.k, .int .i64 x.n, .int .i64 x.lo, .int .i64 x.hi, .int .i64 (up x.p)] 32)).alloc (.cells #[.int .i64 0, .bool false, .int .i64 0, .int .i64 0, .int .i64 0, .int .i64 0] 32)) (w.heap.size + 1) 0 false 0 0 0 0)
    have xf : Fz ((w.alloc (.cells #[.int .i64 (up x.s), .bool x.k, .int .i64 x.n, .int .i64 x.lo, .int .i64 x.hi, .int .i64 (up x.p)] 32)).alloc (.cells #[.int .i64 0, .bool false, .int .i64 0, .int .i64 0, .int .i64 0, .int .i64 0] 32)) (w.heap.size + 1) := by simpa using Fz.new (w.alloc (.cells #[.int .i64 (up x.s), .bool x.k, .int .i64 x.n, .int .i64 x.lo, .int .i64 x.hi, .int .i64 (up x.p)] 32)) 0 false 0 0 0 0 32
    have xb : Below w.heap.size w ((w.alloc (.cells #[.int .i64 (up x.s), .bool x.k, .int .i64 x.n, .int .i64 x.lo, .int .i64 x.hi, .int .i64 (up x.p)] 32)).alloc (.cells #[.int .i64 0, .bool false, .int .i64 0, .int .i64 0, .int .i64 0, .int .i64 0] 32)) := (by repeat (first | exact Below.refl _ _ | (refine Below.drew ?_) | (refine below_drewN ?_ _) | (refine Below.setCell ?_ (by first | omega | (simp; done) | (simp; omega)) _) | (refine Below.alloc ?_ (by first | omega | (simp; done) | (simp; omega)) _) | (refine Below.trans ?_ (Below.mono (by assumption) (by first | omega | (simp; done) | (simp; omega))))))
    go_enter Tryz.func20, Tryz.ntmps20
    go_upto_region 1 with fail
    go_name_world W hW
    rw [hW] at x0 x1 xf xb
    clear hW
    obtain ⟨N, hN⟩ : ∃ N, N = w.heap.size := ⟨_, rfl⟩
    rw [← hN] at x0 x1 xf xb ⊢
    have HN : Hid (N = w.heap.size) := hN
    clear hN
    have HA := hide (And.intro x0 (And.intro x1 (And.intro xf xb)))
    clear x0 x1 xf xb
    have a0 := HA.out.1.c0
    have a1 := HA.out.1.c1
    have a2 := HA.out.1.c2
    have a3 := HA.out.1.c3
    have a4 := HA.out.1.c4
    have a5 := HA.out.1.c5
    have b0 := HA.out.2.1.c0
    have b1 := HA.out.2.1.c1
    have b2 := HA.out.2.1.c2
    have b3 := HA.out.2.1.c3
    have b4 := HA.out.2.1.c4
    have b5 := HA.out.2.1.c5
    have f0 := HA.out.2.2.1.f0
    have f1 := HA.out.2.2.1.f1
    have f2 := HA.out.2.2.1.f2
    have f3 := HA.out.2.2.1.f3
    have f4 := HA.out.2.2.1.f4
    have f5 := HA.out.2.2.1.f5
    go_wp2_with fail
    have zw := HA.out.2.1.wrote 0 false 0 0 0 0
    have hZ := st6_below HA.out.2.2.2 (N + 1) (Nat.le_succ _) (.int .i64 0) (.bool false) (.int .i64 0) (.int .i64 0) (.int .i64 0) (.int .i64 0)
    clear HA a0 a1 a2 a3 a4 a5 b0 b1 b2 b3 b4 b5 f0 f1 f2 f3 f4 f5
    have a0 := zw.c0
    have a1 := zw.c1
    have a2 := zw.c2
    have a3 := zw.c3
    have a4 := zw.c4
    have a5 := zw.c5
    clear zw
    refine bodyPost_ret (by simp [results, Tryz.results20, go_sem, *]; try rfl) rfl ⟨?_, by rw [← HN.out]; exact hZ⟩
    rw [HR.out] <;> rfl
  · by_cases hs : x.s = 0
    · have HR : Hid (someV x true = (zeroV, false)) := by unfold Hid someV; rw [if_neg (fun t => t.2.1 hs)]
      generalize someV x true = r at *
      have d1 : (up x.s == 0) = true := by rw [show (0 : Int) = up 0 from rfl, up_beq, beq_iff_eq]; exact hs
      clear hs
      have x0 : Br ((w.alloc (.cells #[.int .i64 (up x.s), .bool x.k, .int .i64 x.n, .int .i64 x.lo, .int .i64 x.hi, .int .i64 (up x.p)] 32)).alloc (.cells #[.int .i64 0, .bool false, .int .i64 0, .int .i64 0, .int .i64 0, .int .i64 0] 32)) (w.heap.size) (up x.s) x.k x.n x.lo x.hi (up x.p) := ((Br.new w (up x.s) x.k x.n x.lo x.hi (up x.p) 32)).keep ((Below.refl _ _).alloc (Nat.le_refl _) _)
      have x1 : Br ((w.alloc (.cells #[.int .i64 (up x.s), .bool x.k, .int .i64 x.n, .int .i64 x.lo, .int .i64 x.hi, .int .i64 (up x.p)] 32)).alloc (.cells #[.int .i64 0, .bool false, .int .i64 0, .int .i64 0, .int .i64 0, .int .i64 0] 32)) (w.heap.size + 1) 0 false 0 0 0 0 := (by simpa using Br.new (w.alloc (.cells #[.int .i64 (up x.s), .bool x.k, .int .i64 x.n, .int .i64 x.lo, .int .i64 x.hi, .int .i64 (up x.p)] 32)) 0 false 0 0 0 0 32 : Br ((w.alloc (.cells #[.int .i64 (up x.s), .bool x.k, .int .i64 x.n, .int .i64 x.lo, .int .i64 x.hi, .int .i64 (up x.p)] 32)).alloc (.cells #[.int .i64 0, .bool false, .int .i64 0, .int .i64 0, .int .i64 0, .int .i64 0] 32)) (w.heap.size + 1) 0 false 0 0 0 0)
      have xf : Fz ((w.alloc (.cells #[.int .i64 (up x.s), .bool x.k, .int .i64 x.n, .int .i64 x.lo, .int .i64 x.hi, .int .i64 (up x.p)] 32)).alloc (.cells #[.int .i64 0, .bool false, .int .i64 0, .int .i64 0, .int .i64 0, .int .i64 0] 32)) (w.heap.size + 1) := by simpa using Fz.new (w.alloc (.cells #[.int .i64 (up x.s), .bool x.k, .int .i64 x.n, .int .i64 x.lo, .int .i64 x.hi, .int .i64 (up x.p)] 32)) 0 false 0 0 0 0 32
      have xb : Below w.heap.size w ((w.alloc (.cells #[.int .i64 (up x.s), .bool x.k, .int .i64 x.n, .int .i64 x.lo, .int .i64 x.hi, .int .i64 (up x.p)] 32)).alloc (.cells #[.int .i64 0, .bool false, .int .i64 0, .int .i64 0, .int .i64 0, .int .i64 0] 32)) := (by repeat (first | exact Below.refl _ _ | (refine Below.drew ?_) | (refine below_drewN ?_ _) | (refine Below.setCell ?_ (by first | omega | (simp; done) | (simp; omega)) _) | (refine Below.alloc ?_ (by first | omega | (simp; done) | (simp; omega)) _) | (refine Below.trans ?_ (Below.mono (by assumption) (by first | omega | (simp; done) | (simp; omega))))))
      go_enter Tryz.func20, Tryz.ntmps20
      go_upto_region 1 with fail
      go_name_world W hW
      rw [hW] at x0 x1 xf xb
      clear hW
      obtain ⟨N, hN⟩ : ∃ N, N = w.heap.size := ⟨_, rfl⟩
      rw [← hN] at x0 x1 xf xb ⊢
      have HN : Hid (N = w.heap.size) := hN
      clear hN
      have HA := hide (And.intro x0 (And.intro x1 (And.intro xf xb)))
      clear x0 x1 xf xb
      have a0 := HA.out.1.c0
      have a1 := HA.out.1.c1
      have a2 := HA.out.1.c2
      have a3 := HA.out.1.c3
      have a4 := HA.out.1.c4
      have a5 := HA.out.1.c5
      have b0 := HA.out.2.1.c0
      have b1 := HA.out.2.1.c1
      have b2 := HA.out.2.1.c2
      have b3 := HA.out.2.1.c3
      have b4 := HA.out.2.1.c4
      have b5 := HA.out.2.1.c5
      have f0 := HA.out.2.2.1.f0
      have f1 := HA.out.2.2.1.f1
      have f2 := HA.out.2.2.1.f2
      have f3 := HA.out.2.2.1.f3
      have f4 := HA.out.2.2.1.f4
      have f5 := HA.out.2.2.1.f5
      go_wp2_with fail
      have zw := HA.out.2.1.wrote 0 false 0 0 0 0
      have hZ := st6_below HA.out.2.2.2 (N + 1) (Nat.le_succ _) (.int .i64 0) (.bool false) (.int .i64 0) (.int .i64 0) (.int .i64 0) (.int .i64 0)
      clear HA a0 a1 a2 a3 a4 a5 b0 b1 b2 b3 b4 b5 f0 f1 f2 f3 f4 f5
      have a0 := zw.c0
      have a1 := zw.c1
      have a2 := zw.c2
      have a3 := zw.c3
      have a4 := zw.c4
      have a5 := zw.c5
      clear zw
      refine bodyPost_ret (by simp [results, Tryz.results20, go_sem, *]; try rfl) rfl ⟨?_, by rw [← HN.out]; exact hZ⟩
      rw [HR.out] <;> rfl
    · by_cases hp : x.p = 0
      · have HR : Hid (someV x true = (zeroV, false)) := by unfold Hid someV; rw [if_neg (fun t => t.2.2 hp)]
        generalize someV x true = r at *
        have d1 : (up x.s == 0) = false := by rw [show (0 : Int) = up 0 from rfl, up_beq, beq_eq_false_iff_ne]; exact hs
        have d2 : (up x.p == 0) = true := by rw [show (0 : Int) = up 0 from rfl, up_beq, beq_iff_eq]; exact hp
        clear hs hp
        have x0 : Br ((w.alloc (.cells #[.int .i64 (up x.s), .bool x.k, .int .i64 x.n, .int .i64 x.lo, .int .i64 x.hi, .int .i64 (up x.p)] 32)).alloc (.cells #[.int .i64 0, .bool false, .int .i64 0, .int .i64 0, .int .i64 0, .int .i64 0] 32)) (w.heap.size) (up x.s) x.k x.n x.lo x.hi (up x.p) := ((Br.new w (up x.s) x.k x.n x.lo x.hi (up x.p) 32)).keep ((Below.refl _ _).alloc (Nat.le_refl _) _)
        have x1 : Br ((w.alloc (.cells #[.int .i64 (up x.s), .bool x.k, .int .i64 x.n, .int .i64 x.lo, .int .i64 x.hi, .int .i64 (up x.p)] 32)).alloc (.cells #[.int .i64 0, .bool false, .int .i64 0, .int .i64 0, .int .i64 0, .int .i64 0] 32)) (w.heap.size + 1) 0 false 0 0 0 0 := (by simpa using Br.new (w.alloc (.cells #[.int .i64 (up x.s), .bool x.k, .int .i64 x.n, .int .i64 x.lo, .int .i64 x.hi, .int .i64 (up x.p)] 32)) 0 false 0 0 0 0 32 : Br ((w.alloc (.cells #[.int .i64 (up x.s), .bool x.k, .int .i64 x.n, .int .i64 x.lo, .int .i64 x.hi, .int .i64 (up x.p)] 32)).alloc (.cells #[.int .i64 0, .bool false, .int .i64 0, .int .i64 0, .int .i64 0, .int .i64 0] 32)) (w.heap.size + 1) 0 false 0 0 0 0)
        have xf : Fz ((w.alloc (.cells #[.int .i64 (up x.s), .bool x.k, .int .i64 x.n, .int .i64 x.lo, .int .i64 x.hi, .int .i64 (up x.p)] 32)).alloc (.cells #[.int .i64 0, .bool false, .int .i64 0, .int .i64 0, .int .i64 0, .int .i64 0] 32)) (w.heap.size + 1) := by simpa using Fz.new (w.alloc (.cells #[.int .i64 (up x.s), .bool x.k, .int .i64 x.n, .int .i64 x.lo, .int .i64 x.hi, .int .i64 (up x.p)] 32)) 0 false 0 0 0 0 32
        have xb : Below w.heap.size w ((w.alloc (.cells #[.int .i64 (up x.s), .bool x.k, .int .i64 x.n, .int .i64 x.lo, .int .i64 x.hi, .int .i64 (up x.p)] 32)).alloc (.cells #[.int .i64 0, .bool false, .int .i64 0, .int .i64 0, .int .i64 0, .int .i64 0] 32)) := (by repeat (first | exact Below.refl _ _ | (refine Below.drew ?_) | (refine below_drewN ?_ _) | (refine Below.setCell ?_ (by first | omega | (simp; done) | (simp; omega)) _) | (refine Below.alloc ?_ (by first | omega | (simp; done) | (simp; omega)) _) | (refine Below.trans ?_ (Below.mono (by assumption) (by first | omega | (simp; done) | (simp; omega))))))
        go_enter Tryz.func20, Tryz.ntmps20
        go_upto_region 1 with fail
        go_name_world W hW
        rw [hW] at x0 x1 xf xb
        clear hW
        obtain ⟨N, hN⟩ : ∃ N, N = w.heap.size := ⟨_, rfl⟩
        rw [← hN] at x0 x1 xf xb ⊢
        have HN : Hid (N = w.heap.size) := hN
        clear hN
        have HA := hide (And.intro x0 (And.intro x1 (And.intro xf xb)))
        clear x0 x1 xf xb
        have a0 := HA.out.1.c0
        have a1 := HA.out.1.c1
        have a2 := HA.out.1.c2
        have a3 := HA.out.1.c3
        have a4 := HA.out.1.c4
        have a5 := HA.out.1.c5
        have b0 := HA.out.2.1.c0
        have b1 := HA.out.2.1.c1
        have b2 := HA.out.2.1.c2
        have b3 := HA.out.2.1.c3
        have b4 := HA.out.2.1.c4
        have b5 := HA.out.2.1.c5
        have f0 := HA.out.2.2.1.f0
        have f1 := HA.out.2.2.1.f1
        have f2 := HA.out.2.2.1.f2
        have f3 := HA.out.2.2.1.f3
        have f4 := HA.out.2.2.1.f4
        have f5 := HA.out.2.2.1.f5
        go_wp2_with fail
        have zw := HA.out.2.1.wrote 0 false 0 0 0 0
        have hZ := st6_below HA.out.2.2.2 (N + 1) (Nat.le_succ _) (.int .i64 0) (.bool false) (.int .i64 0) (.int .i64 0) (.int .i64 0) (.int .i64 0)
        clear HA a0 a1 a2 a3 a4 a5 b0 b1 b2 b3 b4 b5 f0 f1 f2 f3 f4 f5
        have a0 := zw.c0
        have a1 := zw.c1
        have a2 := zw.c2
        have a3 := zw.c3
        have a4 := zw.c4
        have a5 := zw.c5
        clear zw
        refine bodyPost_ret (by simp [results, Tryz.results20, go_sem, *]; try rfl) rfl ⟨?_, by rw [← HN.out]; exact hZ⟩
        rw [HR.out] <;> rfl
      · have HR : Hid (someV x true = (x, true)) := by unfold Hid someV; rw [if_pos ⟨rfl, hs, hp⟩]
        generalize someV x true = r at *
        have d1 : (up x.s == 0) = false := by rw [show (0 : Int) = up 0 from rfl, up_beq, beq_eq_false_iff_ne]; exact hs
        have d2 : (up x.p == 0) = false := by rw [show (0 : Int) = up 0 from rfl, up_beq, beq_eq_false_iff_ne]; exact hp
        clear hs hp
        have x0 : Br ((w.alloc (.cells #[.int .i64 (up x.s), .bool x.k, .int .i64 x.n, .int .i64 x.lo, .int .i64 x.hi, .int .i64 (up x.p)] 32)).alloc (.cells #[.int .i64 0, .bool false, .int .i64 0, .int .i64 0, .int .i64 0, .int .i64 0] 32)) (w.heap.size) (up x.s) x.k x.n x.lo x.hi (up x.p) := ((Br.new w (up x.s) x.k x.n x.lo x.hi (up x.p) 32)).keep ((Below.refl _ _).alloc (Nat.le_refl _) _)
        have x1 : Br ((w.alloc (.cells #[.int .i64 (up x.s), .bool x.k, .int .i64 x.n, .int .i64 x.lo, .int .i64 x.hi, .int .i64 (up x.p)] 32)).alloc (.cells #[.int .i64 0, .bool false, .int .i64 0, .int .i64 0, .int .i64 0, .int .i64 0] 32)) (w.heap.size + 1) 0 false 0 0 0 0 := (by simpa using Br.new (w.alloc (.cells #[.int .i64 (up x.s), .bool x.k, .int .i64 x.n, .int .i64 x.lo, .int .i64 x.hi, .int .i64 (up x.p)] 32)) 0 false 0 0 0 0 32 : Br ((w.alloc (.cells #[.int .i64 (up x.s), .bool x.k, .int .i64 x.n, .int .i64 x.lo, .int .i64 x.hi, .int .i64 (up x.p)] 32)).alloc (.cells #[.int .i64 0, .bool false, .int .i64 0, .int .i64 0, .int .i64 0, .int .i64 0] 32)) (w.heap.size + 1) 0 false 0 0 0 0)
        have xf : Fz ((w.alloc (.cells #[.int .i64 (up x.s), .bool x.k, .int .i64 x.n, .int .i64 x.lo, .int .i64 x.hi, .int .i64 (up x.p)] 32)).alloc (.cells #[.int .i64 0, .bool false, .int .i64 0, .int .i64 0, .int .i64 0, .int .i64 0] 32)) (w.heap.size + 1) := by simpa using Fz.new (w.alloc (.cells #[.int .i64 (up x.s), .bool x.k, .int .i64 x.n, .int .i64 x.lo, .int .i64 x.hi, .int .i64 (up x.p)] 32)) 0 false 0 0 0 0 32
        have xb : Below w.heap.size w ((w.alloc (.cells #[.int .i64 (up x.s), .bool x.k, .int .i64 x.n, .int .i64 x.lo, .int .i64 x.hi, .int .i64 (up x.p)] 32)).alloc (.cells #[.int .i64 0, .bool false, .int .i64 0, .int .i64 0, .int .i64 0, .int .i64 0] 32)) := (by repeat (first | exact Below.refl _ _ | (refine Below.drew ?_) | (refine below_drewN ?_ _) | (refine Below.setCell ?_ (by first | omega | (simp; done) | (simp; omega)) _) | (refine Below.alloc ?_ (by first | omega | (simp; done) | (simp; omega)) _) | (refine Below.trans ?_ (Below.mono (by assumption) (by first | omega | (simp; done) | (simp; omega))))))
        go_enter Tryz.func20, Tryz.ntmps20
        go_upto_region 1 with fail
        go_name_world W hW
        rw [hW] at x0 x1 xf xb
        clear hW
        obtain ⟨N, hN⟩ : ∃ N, N = w.heap.size := ⟨_, rfl⟩
        rw [← hN] at x0 x1 xf xb ⊢
        have HN : Hid (N = w.heap.size) := hN
        clear hN
        have HA := hide (And.intro x0 (And.intro x1 (And.intro xf xb)))
        clear x0 x1 xf xb
        have a0 := HA.out.1.c0
        have a1 := HA.out.1.c1
        have a2 := HA.out.1.c2
        have a3 := HA.out.1.c3
        have a4 := HA.out.1.c4
        have a5 := HA.out.1.c5
        have b0 := HA.out.2.1.c0
        have b1 := HA.out.2.1.c1
        have b2 := HA.out.2.1.c2
        have b3 := HA.out.2.1.c3
        have b4 := HA.out.2.1.c4
        have b5 := HA.out.2.1.c5
        have f0 := HA.out.2.2.1.f0
        have f1 := HA.out.2.2.1.f1
        have f2 := HA.out.2.2.1.f2
        have f3 := HA.out.2.2.1.f3
        have f4 := HA.out.2.2.1.f4
        have f5 := HA.out.2.2.1.f5
        go_wp2_with fail
        have zw := HA.out.2.1.wrote (up x.s) x.k x.n x.lo x.hi (up x.p)
        have hZ := st6_below HA.out.2.2.2 (N + 1) (Nat.le_succ _) (.int .i64 (up x.s)) (.bool x.k) (.int .i64 x.n) (.int .i64 x.lo) (.int .i64 x.hi) (.int .i64 (up x.p))
        clear HA a0 a1 a2 a3 a4 a5 b0 b1 b2 b3 b4 b5 f0 f1 f2 f3 f4 f5
        have a0 := zw.c0
        have a1 := zw.c1
        have a2 := zw.c2
        have a3 := zw.c3
        have a4 := zw.c4
        have a5 := zw.c5
        clear zw
        refine bodyPost_ret (by simp [results, Tryz.results20, go_sem, *]; try rfl) rfl ⟨?_, by rw [← HN.out]; exact hZ⟩
        rw [HR.out] <;> rfl
end Go.Proofs.YthiacdbjlkpfgaaGreatDoor
