import Derived.Test.YthiacdbjlkpfgaaGreatDoorG05
import Derived.Test.YthiacdbjlkpfgaaGreatDoorG06
namespace Go.Proofs.YthiacdbjlkpfgaaGreatDoor
open Go.RowKit
set_option maxRecDepth 100000 in
set_option maxHeartbeats 16000000 in
theorem allr_V (x : V) (k1 k2 : Bool) (w : World) : Calls Tryz.prog 25 #[.agg #[.int .i64 (up x.s), .bool x.k, .int .i64 x.n, .int .i64 x.lo, .int .i64 x.hi, .int .i64 (up x.p)], .bool k1, .bool k2] w fun e w' => e = .returned (.tuple #[.agg #[.int .i64 (up (someV x (k1 && k2)).1.s), .bool (someV x (k1 && k2)).1.k, .int .i64 (someV x (k1 && k2)).1.n, .int .i64 (someV x (k1 && k2)).1.lo, .int .i64 (someV x (k1 && k2)).1.hi, .int .i64 (up (someV x (k1 && k2)).1.p)], .bool (someV x (k1 && k2)).2]) ∧ Below w.heap.size w w' := by
  by_cases hs : x.s = 0
  · have HR : Hid (someV x (k1 && k2) = (zeroV, false)) := by unfold Hid someV; rw [if_neg (fun t => t.2.1 hs)]
    generalize someV x (k1 && k2) = r at *
    have d1 : (up x.s == 0) = true := by rw [show (0 : Int) = up 0 from rfl, up_beq, beq_iff_eq]; exact hs
    clear hs
    have x0 : Br ((w.alloc (.cells #[.int .i64 (up x.s), .bool x.k, .int .i64 x.n, .int .i64 x.lo, .int .i64 x.hi, .int .i64 (up x.p)] 27)).alloc (.cells #[.int .i64 0, .bool false, .int .i64 0, .int .i64 0, .int .i64 0, .int .i64 0] 27)) (w.heap.size) (up x.s) x.k x.n x.lo x.hi (up x.p) := ((Br.new w (up x.s) x.k x.n x.lo x.hi (up x.p) 27)).keep ((Below.refl _ _).alloc (Nat.le_refl _) _)
    have x1 : Br ((w.alloc (.cells #[.int .i64 (up x.s), .bool x.k, .int .i64 x.n, .int .i64 x.lo, .int .i64 x.hi, .int .i64 (up x.p)] 27)).alloc (.cells #[.int .i64 0, .bool false, .int .i64 0, .int .i64 0, .int .i64 0, .int .i64 0] 27)) (w.heap.size + 1) 0 false 0 0 0 0 := (by simpa using Br.new (w.alloc (.cells #[.int .i64 (up x.s), .bool x.k, .int .i64 x.n, .int .i64 x.lo, .int .i64 x.hi, .int .i64 (up x.p)] 27)) 0 false 0 0 0 0 27 : Br ((w.alloc (.cells #[.int .i64 (up x.s), .bool x.k, .int .i64 x.n, .int .i64 x.lo, .int .i64 x.hi, .int .i64 (up x.p)] 27)).alloc (.cells #[.int .i64 0, .bool false, .int .i64 0, .int .i64 0, .int .i64 0, .int .i64 0] 27)) (w.heap.size + 1) 0 false 0 0 0 0)
    have xf : Fz ((w.alloc (.cells #[.int .i64 (up x.s), .bool x.k, .int .i64 x.n, .int .i64 x.lo, .int .i64 x.hi, .int .i64 (up x.p)] 27)).alloc (.cells #[.int .i64 0, .bool false, .int .i64 0, .int .i64 0, .int .i64 0, .int .i64 0] 27)) (w.heap.size + 1) := by simpa using Fz.new (w.alloc (.cells #[.int .i64 (up x.s), .bool x.k, .int .i64 x.n, .int .i64 x.lo, .int .i64 x.hi, .int .i64 (up x.p)] 27)) 0 false 0 0 0 0 27
    have xb : Below w.heap.size w ((w.alloc (.cells #[.int .i64 (up x.s), .bool x.k, .int .i64 x.n, .int .i64 x.lo, .int .i64 x.hi, .int .i64 (up x.p)] 27)).alloc (.cells #[.int .i64 0, .bool false, .int .i64 0, .int .i64 0, .int .i64 0, .int .i64 0] 27)) := (by repeat (first | exact Below.refl _ _ | (refine Below.drew ?_) | (refine below_drewN ?_ _) | (refine Below.setCell ?_ (by first | omega | (simp; done) | (simp; omega)) _) | (refine Below.alloc ?_ (by first | omega | (simp; done) | (simp; omega)) _) | (refine Below.trans ?_ (Below.mono (by assumption) (by first | omega | (simp; done) | (simp; omega))))))
    go_enter Tryz.func25, Tryz.ntmps25
    go_upto_region 1 with fail
    go_name_world W hW
    rw [hW] at x0 x1 xf xb
    clear hW
    obtain ⟨N, hN⟩ : ∃ N, N = w.heap.size := ⟨_, rfl⟩
    rw [← hN] at x0 x1 xf xb ⊢
    have HN : Hid (N = w.heap.size) := hN
    clear hN
    have HA := hide (And.intro x0 (And.intro x1 (And.intro xf xb)))
    clear x0 x1 xf xb
    have a0 := HA.out.1.c0
    have a1 := HA.out.1.c1
    have a2 := HA.out.1.c2
    have a3 := HA.out.1.c3
    have a4 := HA.out.1.c4
    have a5 := HA.out.1.c5
    have b0 := HA.out.2.1.c0
    have b1 := HA.out.2.1.c1
    have b2 := HA.out.2.1.c2
    have b3 := HA.out.2.1.c3
    have b4 := HA.out.2.1.c4
    have b5 := HA.out.2.1.c5
    have f0 := HA.out.2.2.1.f0
    have f1 := HA.out.2.2.1.f1
    have f2 := HA.out.2.2.1.f2
    have f3 := HA.out.2.2.1.f3
    have f4 := HA.out.2.2.1.f4
    have f5 := HA.out.2.2.1.f5
    go_wp2_with fail
    have zw := HA.out.2.1.wrote 0 false 0 0 0 0
    have hZ := st6_below HA.out.2.2.2 (N + 1) (Nat.le_succ _) (.int .i64 0) (.bool false) (.int .i64 0) (.int .i64 0) (.int .i64 0) (.int .i64 0)
    clear HA a0 a1 a2 a3 a4 a5 b0 b1 b2 b3 b4 b5 f0 f1 f2 f3 f4 f5
    have a0 := zw.c0
    have a1 := zw.c1
    have a2 := zw.c2
    have a3 := zw.c3
    have a4 := zw.c4
    have a5 := zw.c5
    clear zw
    refine bodyPost_ret (by simp [results, Tryz.results25, go_sem, *]; try rfl) rfl ⟨?_, by rw [← HN.out]; exact hZ⟩
    rw [HR.out] <;> rfl
  · by_cases hp : x.p = 0
    · have HR : Hid (someV x (k1 && k2) = (zeroV, false)) := by unfold Hid someV; rw [if_neg (fun t => t.2.2 hp)]
      generalize someV x (k1 && k2) = r at *
      have d1 : (up x.s == 0) = false := by rw [show (0 : Int) = up 0 from rfl, up_beq, beq_eq_false_iff_ne]; exact hs
      have d2 : (up x.p == 0) = true := by rw [show (0 : Int) = up 0 from rfl, up_beq, beq_iff_eq]; exact hp
      clear hs hp
      have x0 : Br ((w.alloc (.cells #[.int .i64 (up x.s), .bool x.k, .int .i64 x.n, .int .i64 x.lo, .int .i64 x.hi, .int .i64 (up x.p)] 27)).alloc (.cells #[.int .i64 0, .bool false, .int .i64 0, .int .i64 0, .int .i64 0, .int .i64 0] 27)) (w.heap.size) (up x.s) x.k x.n x.lo x.hi (up x.p) := ((Br.new w (up x.s) x.k x.n x.lo x.hi (up x.p) 27)).keep ((Below.refl _ _).alloc (Nat.le_refl _) _)
      have x1 : Br ((w.alloc (.cells #[.int .i64 (up x.s), .bool x.k, .int .i64 x.n, .int .i64 x.lo, .int .i64 x.hi, .int .i64 (up x.p)] 27)).alloc (.cells #[.int .i64 0, .bool false, .int .i64 0, .int .i64 0, .int .i64 0, .int .i64 0] 27)) (w.heap.size + 1) 0 false 0 0 0 0 := (by simpa using Br.new (w.alloc (.cells #[.int .i64 (up x.s), .bool x.k, .int .i64 x.n, .int .i64 x.lo, .int .i64 x.hi, .int .i64 (up x.p)] 27)) 0 false 0 0 0 0 27 : Br ((w.alloc (.cells #[.int .i64 (up x.s), .bool x.k, .int .i64 x.n, .int .i64 x.lo, .int .i64 x.hi, .int .i64 (up x.p)] 27)).alloc (.cells #[.int .i64 0, .bool false, .int .i64 0, .int .i64 0, .int .i64 0, .int .i64 0] 27)) (w.heap.size + 1) 0 false 0 0 0 0)
      have xf : Fz ((w.alloc (.cells #[.int .i64 (up x.s), .bool x.k, .int .i64 x.n, .int .i64 x.lo, .int .i64 x.hi, .int .i64 (up x.p)] 27)).alloc (.cells #[.int .i64 0, .bool false, .int .i64 0, .int .i64 0, .int .i64 0, .int .i64 0] 27)) (w.heap.size + 1) := by simpa using Fz.new (w.alloc (.cells #[.int .i64 (up x.s), .bool x.k, .int .i64 x.n, .int .i64 x.lo, .int .i64 x.hi, .int .i64 (up x.p)] 27)) 0 false 0 0 0 0 27
      have xb : Below w.heap.size w ((w.alloc (.cells #[.int .i64 (up x.s), .bool x.k, .int .i64 x.n, .int .i64 x.lo, .int .i64 x.hi, .int .i64 (up x.p)] 27)).alloc (.cells #[.int .i64 0, .bool false, .int .i64 0, .int .i64 0, .int .i64 0, .int .i64 0] 27)) := (by repeat (first | exact Below.refl _ _ | (refine Below.drew ?_) | (refine below_drewN ?_ _) | (refine Below.setCell ?_ (by first | omega | (simp; done) | (simp; omega)) _) | (refine Below.alloc ?_ (by first | omega | (simp; done) | (simp; omega)) _) | (refine Below.trans ?_ (Below.mono (by assumption) (by first | omega | (simp; done) | (simp; omega))))))
      go_enter Tryz.func25, Tryz.ntmps25
      go_upto_region 1 with fail
      go_name_world W hW
      rw [hW] at x0 x1 xf xb
      clear hW
      obtain ⟨N, hN⟩ : ∃ N, N = w.heap.size := ⟨_, rfl⟩
      rw [← hN] at x0 x1 xf xb ⊢
      have HN : Hid (N = w.heap.size) := hN
      clear hN
      have HA := hide (And.intro x0 (And.intro x1 (And.intro xf xb)))
      clear x0 x1 xf xb
      have a0 := HA.out.1.c0
      have a1 := HA.out.1.c1
      have a2 := HA.out.1.c2
      have a3 := HA.out.1.c3
      have a4 := HA.out.1.c4
      have a5 := HA.out.1.c5
      have b0 := HA.out.2.1.c0
      have b1 := HA.out.2.1.c1
      have b2 := HA.out.2.1.c2
      have b3 := HA.out.2.1.c3
      have b4 := HA.out.2.1.c4
      have b5 := HA.out.2.1.c5
      have f0 := HA.out.2.2.1.f0
      have f1 := HA.out.2.2.1.f1
      have f2 := HA.out.2.2.1.f2
      have f3 := HA.out.2.2.1.f3
      have f4 := HA.out.2.2.1.f4
      have f5 := HA.out.2.2.1.f5
      go_wp2_with fail
      have zw := HA.out.2.1.wrote 0 false 0 0 0 0
      have hZ := st6_below HA.out.2.2.2 (N + 1) (Nat.le_succ _) (.int .i64 0) (.bool false) (.int .i64 0) (.int .i64 0) (.int .i64 0) (.int .i64 0)
      clear HA a0 a1 a2 a3 a4 a5 b0 b1 b2 b3 b4 b5 f0 f1 f2 f3 f4 f5
      have a0 := zw.c0
      have a1 := zw.c1
      have a2 := zw.c2
      have a3 := zw.c3
      have a4 := zw.c4
      have a5 := zw.c5
      clear zw
      refine bodyPost_ret (by simp [results, Tryz.results25, go_sem, *]; try rfl) rfl ⟨?_, by rw [← HN.out]; exact hZ⟩
      rw [HR.out] <;> rfl
    · cases k1
      · have HR : Hid (someV x (false && k2) = (zeroV, false)) := by unfold Hid someV; rw [if_neg (by simp)]
        generalize someV x (false && k2) = r at *
        have d1 : (up x.s == 0) = false := by rw [show (0 : Int) = up 0 from rfl, up_beq, beq_eq_false_iff_ne]; exact hs
        have d2 : (up x.p == 0) = false := by rw [show (0 : Int) = up 0 from rfl, up_beq, beq_eq_false_iff_ne]; exact hp
        clear hs hp
        have x0 : Br ((w.alloc (.cells #[.int .i64 (up x.s), .bool x.k, .int .i64 x.n, .int .i64 x.lo, .int .i64 x.hi, .int .i64 (up x.p)] 27)).alloc (.cells #[.int .i64 0, .bool false, .int .i64 0, .int .i64 0, .int .i64 0, .int .i64 0] 27)) (w.heap.size) (up x.s) x.k x.n x.lo x.hi (up x.p) := ((Br.new w (up x.s) x.k x.n x.lo x.hi (up x.p) 27)).keep ((Below.refl _ _).alloc (Nat.le_refl _) _)
        have x1 : Br ((w.alloc (.cells #[.int .i64 (up x.s), .bool x.k, .int .i64 x.n, .int .i64 x.lo, .int .i64 x.hi, .int .i64 (up x.p)] 27)).alloc (.cells #[.int .i64 0, .bool false, .int .i64 0, .int .i64 0, .int .i64 0, .int .i64 0] 27)) (w.heap.size + 1) 0 false 0 0 0 0 := (by simpa using Br.new (w.alloc (.cells #[.int .i64 (up x.s), .bool x.k, .int .i64 x.n, .int .i64 x.lo, .int .i64 x.hi, .int .i64 (up x.p)] 27)) 0 false 0 0 0 0 27 : Br ((w.alloc (.cells #[.int .i64 (up x.s), .bool x.k, .int .i64 x.n, .int .i64 x.lo, .int .i64 x.hi, .int .i64 (up x.p)] 27)).alloc (.cells #[.int .i64 0, .bool false, .int .i64 0, .int .i64 0, .int .i64 0, .int .i64 0] 27)) (w.heap.size + 1) 0 false 0 0 0 0)
        have xf : Fz ((w.alloc (.cells #[.int .i64 (up x.s), .bool x.k, .int .i64 x.n, .int .i64 x.lo, .int .i64 x.hi, .int .i64 (up x.p)] 27)).alloc (.cells #[.int .i64 0, .bool false, .int .i64 0, .int .i64 0, .int .i64 0, .int .i64 0] 27)) (w.heap.size + 1) := by simpa using Fz.new (w.alloc (.cells #[.int .i64 (up x.s), .bool x.k, .int .i64 x.n, .int .i64 x.lo, .int .i64 x.hi, .int .i64 (up x.p)] 27)) 0 false 0 0 0 0 27
        have xb : Below w.heap.size w ((w.alloc (.cells #[.int .i64 (up x.s), .bool x.k, .int .i64 x.n, .int .i64 x.lo, .int .i64 x.hi, .int .i64 (up x.p)] 27)).alloc (.cells #[.int .i64 0, .bool false, .int .i64 0, .int .i64 0, .int .i64 0, .int .i64 0] 27)) := (by repeat (first | exact Below.refl _ _ | (refine Below.drew ?_) | (refine below_drewN ?_ _) | (refine Below.setCell ?_ (by first | omega | (simp; done) | (simp; omega)) _) | (refine Below.alloc ?_ (by first | omega | (simp; done) | (simp; omega)) _) | (refine Below.trans ?_ (Below.mono (by assumption) (by first | omega | (simp; done) | (simp; omega))))))
        go_enter Tryz.func25, Tryz.ntmps25
        go_upto_region 1 with fail
        go_name_world W hW
        rw [hW] at x0 x1 xf xb
        clear hW
        obtain ⟨N, hN⟩ : ∃ N, N = w.heap.size := ⟨_, rfl⟩
        rw [← hN] at x0 x1 xf xb ⊢
        have HN : Hid (N = w.heap.size) := hN
        clear hN
        have HA := hide (And.intro x0 (And.intro x1 (And.intro xf xb)))
        clear x0 x1 xf xb
        have a0 := HA.out.1.c0
        have a1 := HA.out.1.c1
        have a2 := HA.out.1.c2
        have a3 := HA.out.1.c3
        have a4 := HA.out.1.c4
        have a5 := HA.out.1.c5
        have b0 := HA.out.2.1.c0
        have b1 := HA.out.2.1.c1
        have b2 := HA.out.2.1.c2
        have b3 := HA.out.2.1.c3
        have b4 := HA.out.2.1.c4
        have b5 := HA.out.2.1.c5
        have f0 := HA.out.2.2.1.f0
        have f1 := HA.out.2.2.1.f1
        have f2 := HA.out.2.2.1.f2
        have f3 := HA.out.2.2.1.f3
        have f4 := HA.out.2.2.1.f4
        have f5 := HA.out.2.2.1.f5
        go_wp2_with fail
        have zw := HA.out.2.1.wrote 0 false 0 0 0 0
        have hZ := st6_below HA.out.2.2.2 (N + 1) (Nat.le_succ _) (.int .i64 0) (.bool false) (.int .i64 0) (.int .i64 0) (.int .i64 0) (.int .i64 0)
        clear HA a0 a1 a2 a3 a4 a5 b0 b1 b2 b3 b4 b5 f0 f1 f2 f3 f4 f5
        have a0 := zw.c0
        have a1 := zw.c1
        have a2 := zw.c2
        have a3 := zw.c3
        have a4 := zw.c4
        have a5 := zw.c5
        clear zw
        refine bodyPost_ret (by simp [results, Tryz.results25, go_sem, *]; try rfl) rfl ⟨?_, by rw [← HN.out]; exact hZ⟩
        rw [HR.out] <;> rfl
      · cases k2
        · have HR : Hid (someV x (true && false) = (zeroV, false)) := by unfold Hid someV; rw [if_neg (by simp)]
          generalize someV x (true && false) = r at *
          have d1 : (up x.s == 0) = false := by rw [show (0 : Int) = up 0 from rfl, up_beq, beq_eq_false_iff_ne]; exact hs
          have d2 : (up x.p == 0) = false := by rw [show (0 : Int) = up 0 from rfl, up_beq, beq_eq_false_iff_ne]; exact hp
          clear hs hp
          have x0 : Br ((w.alloc (.cells #[.int .i64 (up x.s), .bool x.k, .int .i64 x.n, .int .i64 x.lo, .int .i64 x.hi, .int .i64 (up x.p)] 27)).alloc (.cells #[.int .i64 0, .bool false, .int .i64 0, .int .i64 0, .int .i64 0, .int .i64 0] 27)) (w.heap.size) (up x.s) x.k x.n x.lo x.hi (up x.p) := ((Br.new w (up x.s) x.k x.n x.lo x.hi (up x.p) 27)).keep ((Below.refl _ _).alloc (Nat.le_refl _) _)
          have x1 : Br ((w.alloc (.cells #[.int .i64 (up x.s), .bool x.k, .int .i64 x.n, .int .i64 x.lo, .int .i64 x.hi, .int .i64 (up x.p)] 27)).alloc (.cells #[.int .i64 0, .bool false, .int .i64 0, .int .i64 0, .int .i64 0, .int .i64 0] 27)) (w.heap.size + 1) 0 false 0 0 0 0 := (by simpa using Br.new (w.alloc (.cells #[.int .i64 (up x.s), .bool x.k, .int .i64 x.n, .int .i64 x.lo, .int .i64 x.hi, .int .i64 (up x.p)] 27)) 0 false 0 0 0 0 27 : Br ((w.alloc (.cells #[.int .i64 (up x.s), .bool x.k, .int .i64 x.n, .int .i64 x.lo, .int .i64 x.hi, .int .i64 (up x.p)] 27)).alloc (.cells #[.int .i64 0, .bool false, .int .i64 0, .int .i64 0, .int .i64 0, .int .i64 0] 27)) (w.heap.size + 1) 0 false 0 0 0 0)
          have xf : Fz ((w.alloc (.cells #[.int .i64 (up x.s), .bool x.k, .int .i64 x.n, .int .i64 x.lo, .int .i64 x.hi, .int .i64 (up x.p)] 27)).alloc (.cells #[.int .i64 0, .bool false, .int .i64 0, .int .i64 0, .int .i64 0, .int .i64 0] 27)) (w.heap.size + 1) := by simpa using Fz.new (w.alloc (.cells #[.int .i64 (up x.s), .bool x.k, .int .i64 x.n, .int .i64 x.lo, .int .i64 x.hi, .int .i64 (up x.p)] 27)) 0 false 0 0 0 0 27
          have xb : Below w.heap.size w ((w.alloc (.cells #[.int .i64 (up x.s), .bool x.k, .int .i64 x.n, .int .i64 x.lo, .int .i64 x.hi, .int .i64 (up x.p)] 27)).alloc (.cells #[.int .i64 0, .bool false, .int .i64 0, .int .i64 0, .int .i64 0, .int .i64 0] 27)) := (by repeat (first | exact Below.refl _ _ | (refine Below.drew ?_) | (refine below_drewN ?_ _) | (refine Below.setCell ?_ (by first | omega | (simp; done) | (simp; omega)) _) | (refine Below.alloc ?_ (by first | omega | (simp; done) | (simp; omega)) _) | (refine Below.trans ?_ (Below.mono (by assumption) (by first | omega | (simp; done) | (simp; omega))))))
          go_enter Tryz.func25, Tryz.ntmps25
          go_upto_region 1 with fail
          go_name_world W hW
          rw [hW] at x0 x1 xf xb
          clear hW
          obtain ⟨N, hN⟩ : ∃ N, N = w.heap.size := ⟨_, rfl⟩
          rw [← hN] at x0 x1 xf xb ⊢
          have HN : Hid (N = w.heap.size) := hN
          clear hN
          have HA := hide (And.intro x0 (And.intro x1 (And.intro xf xb)))
          clear x0 x1 xf xb
          have a0 := HA.out.1.c0
          have a1 := HA.out.1.c1
          have a2 := HA.out.1.c2
          have a3 := HA.out.1.c3
          have a4 := HA.out.1.c4
          have a5 := HA.out.1.c5
          have b0 := HA.out.2.1.c0
          have b1 := HA.out.2.1.c1
          have b2 := HA.out.2.1.c2
          have b3 := HA.out.2.1.c3
          have b4 := HA.out.2.1.c4
          have b5 := HA.out.2.1.c5
          have f0 := HA.out.2.2.1.f0
          have f1 := HA.out.2.2.1.f1
          have f2 := HA.out.2.2.1.f2
          have f3 := HA.out.2.2.1.f3
          have f4 := HA.out.2.2.1.f4
          have f5 := HA.out.2.2.1.f5
          go_wp2_with fail
          have zw := HA.out.2.1.wrote 0 false 0 0 0 0
          have hZ := st6_below HA.out.2.2.2 (N + 1) (Nat.le_succ _) (.int .i64 0) (.bool false) (.int .i64 0) (.int .i64 0) (.int .i64 0) (.int .i64 0)
          clear HA a0 a1 a2 a3 a4 a5 b0 b1 b2 b3 b4 b5 f0 f1 f2 f3 f4 f5
          have a0 := zw.c0
          have a1 := zw.c1
          have a2 := zw.c2
          have a3 := zw.c3
          have a4 := zw.c4
          have a5 := zw.c5
          clear zw
          refine bodyPost_ret (by simp [results, Tryz.results25, go_sem, *]; try rfl) rfl ⟨?_, by rw [← HN.out]; exact hZ⟩
          rw [HR.out] <;> rfl
        · have HR : Hid (someV x (true && true) = (x, true)) := by unfold Hid someV; rw [if_pos ⟨rfl, hs, hp⟩]
          generalize someV x (true && true) = r at *
          have d1 : (up x.s == 0) = false := by rw [show (0 : Int) = up 0 from rfl, up_beq, beq_eq_false_iff_ne]; exact hs
          have d2 : (up x.p == 0) = false := by rw [show (0 : Int) = up 0 from rfl, up_beq, beq_eq_false_iff_ne]; exact hp
          clear hs hp
          have x0 : Br ((w.alloc (.cells #[.int .i64 (up x.s), .bool x.k, .int .i64 x.n, .int .i64 x.lo, .int .i64 x.hi, .int .i64 (up x.p)] 27)).alloc (.cells #[.int .i64 0, .bool false, .int .i64 0, .int .i64 0, .int .i64 0, .int .i64 0] 27)) (w.heap.size) (up x.s) x.k x.n x.lo x.hi (up x.p) := ((Br.new w (up x.s) x.k x.n x.lo x.hi (up x.p) 27)).keep ((Below.refl _ _).alloc (Nat.le_refl _) _)
          have x1 : Br ((w.alloc (.cells #[.int .i64 (up x.s), .bool x.k, .int .i64 x.n, .int .i64 x.lo, .int .i64 x.hi, .int .i64 (up x.p)] 27)).alloc (.cells #[.int .i64 0, .bool false, .int .i64 0, .int .i64 0, .int .i64 0, .int .i64 0] 27)) (w.heap.size + 1) 0 false 0 0 0 0 := (by simpa using Br.new (w.alloc (.cells #[.int .i64 (up x.s), .bool x.k, .int .i64 x.n, .int .i64 x.lo, .int .i64 x.hi, .int .i64 (up x.p)] 27)) 0 false 0 0 0 0 27 : Br ((w.alloc (.cells #[.int .i64 (up x.s), .bool x.k, .int .i64 x.n, .int .i64 x.lo, .int .i64 x.hi, .int .i64 (up x.p)] 27)).alloc (.cells #[.int .i64 0, .bool false, .int .i64 0, .int .i64 0, .int .i64 0, .int .i64 0] 27)) (w.heap.size + 1) 0 false 0 0 0 0)
          have xf : Fz ((w.alloc (.cells #[.int .i64 (up x.s), .bool x.k, .int .i64 x.n, .int .i64 x.lo, .int .i64 x.hi, .int .i64 (up x.p)] 27)).alloc (.cells #[.int .i64 0, .bool false, .int .i64 0, .int .i64 0, .int .i64 0, .int .i64 0] 27)) (w.heap.size + 1) := by simpa using Fz.new (w.alloc (.cells #[.int .i64 (up x.s), .bool x.k, .int .i64 x.n, .int .i64 x.lo, .int .i64 x.hi, .int .i64 (up x.p)] 27)) 0 false 0 0 0 0 27
          have xb : Below w.heap.size w ((w.alloc (.cells #[.int .i64 (up x.s), .bool x.k, .int .i64 x.n, .int .i64 x.lo, .int .i64 x.hi, .int .i64 (up x.p)] 27)).alloc (.cells #[.int .i64 0, .bool false, .int .i64 0, .int .i64 0, .int .i64 0, .int .i64 0] 27)) := (by repeat (first | exact Below.refl _ _ | (refine Below.drew ?_) | (refine below_drewN ?_ _) | (refine Below.setCell ?_ (by first | omega | (simp; done) | (simp; omega)) _) | (refine Below.alloc ?_ (by first | omega | (simp; done) | (simp; omega)) _) | (refine Below.trans ?_ (Below.mono (by assumption) (by first | omega | (simp; done) | (simp; omega))))))
          go_enter Tryz.func25, Tryz.ntmps25
          go_upto_region 1 with fail
          go_name_world W hW
          rw [hW] at x0 x1 xf xb
          clear hW
          obtain ⟨N, hN⟩ : ∃ N, N = w.heap.size := ⟨_, rfl⟩
          rw [← hN] at x0 x1 xf xb ⊢
          have HN : Hid (N = w.heap.size) := hN
          clear hN
          have HA := hide (And.intro x0 (And.intro x1 (And.intro xf xb)))
          clear x0 x1 xf xb
          have a0 := HA.out.1.c0
          have a1 := HA.out.1.c1
          have a2 := HA.out.1.c2
          have a3 := HA.out.1.c3
          have a4 := HA.out.1.c4
          have a5 := HA.out.1.c5
          have b0 := HA.out.2.1.c0
          have b1 := HA.out.2.1.c1
          have b2 := HA.out.2.1.c2
          have b3 := HA.out.2.1.c3
          have b4 := HA.out.2.1.c4
          have b5 := HA.out.2.1.c5
          have f0 := HA.out.2.2.1.f0
          have f1 := HA.out.2.2.1.f1
          have f2 := HA.out.2.2.1.f2
          have f3 := HA.out.2.2.1.f3
          have f4 := HA.out.2.2.1.f4
          have f5 := HA.out.2.2.1.f5
          go_wp2_with fail
          have zw := HA.out.2.1.wrote (up x.s) x.k x.n x.lo x.hi (up x.p)
          have hZ := st6_below HA.out.2.2.2 (N + 1) (Nat.le_succ _) (.int .i64 (up x.s)) (.bool x.k) (.int .i64 x.n) (.int .i64 x.lo) (.int .i64 x.hi) (.int .i64 (up x.p))
          clear HA a0 a1 a2 a3 a4 a5 b0 b1 b2 b3 b4 b5 f0 f1 f2 f3 f4 f5
          have a0 := zw.c0
          have a1 := zw.c1
          have a2 := zw.c2
          have a3 := zw.c3
          have a4 := zw.c4
          have a5 := zw.c5
          clear zw
          refine bodyPost_ret (by simp [results, Tryz.results25, go_sem, *]; try rfl) rfl ⟨?_, by rw [← HN.out]; exact hZ⟩
          rw [HR.out] <;> rfl
end Go.Proofs.YthiacdbjlkpfgaaGreatDoor
namespace Go.Proofs.YthiacdbjlkpfgaaGreatDoor
open Go.RowKit
theorem ret_ib2 {n n' : Int} {b b' : Bool} (h1 : n = n') (h : b = b') : Ending.returned (.tuple #[.int .i64 n, .bool b]) = Ending.returned (.tuple #[.int .i64 n', .bool b']) := by rw [h1, h]
theorem add_any (x y : Int) (w : World) (hx : i64 x) (hy : i64 y) : Calls Tryz.prog 88 #[.int .i64 x, .int .i64 y] w fun e w' => e = .returned (.tuple #[.int .i64 (wrap64 (x + y)), .bool (fit (x + y))]) ∧ w' = w := by
  by_cases h1 : 0 ≤ x
  · by_cases h2 : 0 ≤ y
    · have HF : Hid (decide (0 ≤ wrap64 (x + y)) = fit (x + y)) := by
        unfold Hid
        rw [Bool.eq_iff_iff, fit_iff, decide_eq_true_iff]
        unfold i64 at hx hy
        unfold wrap64
        omega
      go_enter Tryz.func88, Tryz.ntmps88
      go_wp2
      go_ret2
      exact ⟨ret_ib HF.out, rfl⟩
    · have HF : Hid (true = fit (x + y)) := by
        unfold Hid
        symm
        rw [fit_iff]
        unfold i64 at hx hy
        omega
      go_enter Tryz.func88, Tryz.ntmps88
      go_wp2
      go_ret2
      exact ⟨ret_ib HF.out, rfl⟩
  · by_cases h2 : 0 ≤ y
    · have HF : Hid (true = fit (x + y)) := by
        unfold Hid
        symm
        rw [fit_iff]
        unfold i64 at hx hy
        omega
      go_enter Tryz.func88, Tryz.ntmps88
      go_wp2
      go_ret2
      exact ⟨ret_ib HF.out, rfl⟩
    · have HF : Hid ((!decide (0 ≤ wrap64 (x + y))) = fit (x + y)) := by
        unfold Hid
        rw [Bool.eq_iff_iff, fit_iff, Bool.not_eq_true', decide_eq_false_iff_not]
        unfold i64 at hx hy
        unfold wrap64
        omega
      go_enter Tryz.func88, Tryz.ntmps88
      go_wp2
      go_ret2
      exact ⟨ret_ib HF.out, rfl⟩
theorem sub_any (x y : Int) (w : World) (hx : i64 x) (hy : i64 y) : Calls Tryz.prog 90 #[.int .i64 x, .int .i64 y] w fun e w' => e = .returned (.tuple #[.int .i64 (wrap64 (x - y)), .bool (fit (x - y))]) ∧ w' = w := by
  by_cases h1 : 0 ≤ x
  · by_cases h2 : 0 ≤ y
    · have HF : Hid (true = fit (x - y)) := by
        unfold Hid
        symm
        rw [fit_iff]
        unfold i64 at hx hy
        omega
      go_enter Tryz.func90, Tryz.ntmps90
      go_wp2
      go_ret2
      exact ⟨ret_ib HF.out, rfl⟩
    · have HF : Hid (decide (0 ≤ wrap64 (x - y)) = fit (x - y)) := by
        unfold Hid
        rw [Bool.eq_iff_iff, fit_iff, decide_eq_true_iff]
        unfold i64 at hx hy
        unfold wrap64
        omega
      go_enter Tryz.func90, Tryz.ntmps90
      go_wp2
      go_ret2
      exact ⟨ret_ib HF.out, rfl⟩
  · by_cases h2 : 0 ≤ y
    · have HF : Hid ((!decide (0 ≤ wrap64 (x - y))) = fit (x - y)) := by
        unfold Hid
        rw [Bool.eq_iff_iff, fit_iff, Bool.not_eq_true', decide_eq_false_iff_not]
        unfold i64 at hx hy
        unfold wrap64
        omega
      go_enter Tryz.func90, Tryz.ntmps90
      go_wp2
      go_ret2
      exact ⟨ret_ib HF.out, rfl⟩
    · have HF : Hid (true = fit (x - y)) := by
        unfold Hid
        symm
        rw [fit_iff]
        unfold i64 at hx hy
        omega
      go_enter Tryz.func90, Tryz.ntmps90
      go_wp2
      go_ret2
      exact ⟨ret_ib HF.out, rfl⟩
theorem times_any (x y : Int) (w : World) (hx : i64 x) (hy : i64 y) : Calls Tryz.prog 91 #[.int .i64 x, .int .i64 y] w fun e w' => e = .returned (.tuple #[.int .i64 (wrap64 (x * y)), .bool (fit (x * y))]) ∧ ∃ j, w' = w.drewN j := by
  by_cases h0 : x = 0
  · subst h0
    go_enter Tryz.func91, Tryz.ntmps91
    go_wp2
    go_ret2
    exact ⟨by simp [fit, wrap64], 0, rfl⟩
  have x0 : (x == 0) = false := by rw [beq_eq_false_iff_ne]; exact h0
  by_cases h0' : y = 0
  · subst h0'
    go_enter Tryz.func91, Tryz.ntmps91
    go_wp2
    go_ret2
    exact ⟨by simp [fit, wrap64], 0, rfl⟩
  have y0 : (y == 0) = false := by rw [beq_eq_false_iff_ne]; exact h0'
  by_cases h1 : x = -1
  · subst h1
    have HF : Hid ((y != -9223372036854775808) = fit (-1 * y)) := by
      unfold Hid
      unfold i64 at hy
      rw [Bool.eq_iff_iff, fit_iff, bne_iff_ne]
      omega
    clear hx hy h0 h0'
    go_enter Tryz.func91, Tryz.ntmps91
    go_wp2
    go_ret2
    exact ⟨ret_ib2 (by rw [Int.neg_mul, Int.one_mul]) HF.out, 0, rfl⟩
  have x1 : (x == -1) = false := by rw [beq_eq_false_iff_ne]; exact h1
  by_cases h1' : y = -1
  · subst h1'
    by_cases hL : x = -9223372036854775808
    · subst hL
      go_enter Tryz.func91, Tryz.ntmps91
      go_wp2
      go_ret2
      exact ⟨by simp [fit], 0, rfl⟩
    · have HF : Hid (true = fit (x * -1)) := by
        unfold Hid
        unfold i64 at hx
        symm
        rw [fit_iff]
        omega
      have xL : (x != -9223372036854775808) = true := by rw [bne_iff_ne]; exact hL
      clear hx hy h0 h0' hL h1
      go_enter Tryz.func91, Tryz.ntmps91
      go_wp2
      go_ret2
      exact ⟨ret_ib2 (by rw [Int.mul_neg, Int.mul_one]) HF.out, 0, rfl⟩
  · have y1 : (y == -1) = false := by rw [beq_eq_false_iff_ne]; exact h1'
    have hf := prod_fit x y hy h0'
    have hw := wrap_bd (x * y)
    have hq := tdiv_fit (wrap64 (x * y)) y hw h0' (by omega)
    have HF : Hid ((wrap64 ((wrap64 (x * y)).tdiv y) == x) = fit (x * y)) := by unfold Hid; rw [Bool.eq_iff_iff, beq_iff_eq, wrap_fit _ hq.1 hq.2]; exact hf
    clear hf hw hq hx hy h0 h1 h1'
    go_enter Tryz.func91, Tryz.ntmps91
    go_wp2
    go_quiet (fail)
    go_wp2
    go_ret2
    exact ⟨by rw [← HF.out]; simp, _, rfl⟩
theorem farr_any (b : Int × Int) (w : World) (hb : Sp b) : Calls Tryz.prog 112 #[.agg #[.int .i64 b.1, .int .i64 b.2]] w fun e w' => e = .returned (.int .i64 (farP b)) ∧ New1 w w' := by
  unfold Sp at hb
  obtain ⟨b1, b2, b3⟩ := hb
  by_cases h1 : b.1 < 0 <;> by_cases h2 : 0 < b.2 <;>
  · go_enter Tryz.func112, Tryz.ntmps112
    go_wp2
    all_goals (go_ret; refine ⟨?_, _, rfl⟩; exact ret_i (by unfold farP; omega))
theorem oner_any (op : Int) (a : Int × Int) (w : World) (ha : Sp a) : Calls Tryz.prog 24 #[.int .i64 op, .agg #[.int .i64 a.1, .int .i64 a.2]] w fun e w' => e = .returned (.tuple #[.agg #[.int .i64 ((oneP op a).1).1, .int .i64 ((oneP op a).1).2], .bool (oneP op a).2]) ∧ Below w.heap.size w w' := by
  unfold Sp at ha
  obtain ⟨a1, a2, a3⟩ := ha
  by_cases q2 : op = 2
  · subst q2
    go_enter Tryz.func24, Tryz.ntmps24
    go_wp2_with (go_at_call 56; refine (nanyr_any _).mono ?_; rintro e w1 ⟨rfl, o1, rfl⟩)
    all_goals (refine bodyPost_ret (by simp [results, Tryz.results24, go_sem]; try rfl) rfl ⟨?_, (by repeat (first | exact Below.refl _ _ | (refine Below.drew ?_) | (refine below_drewN ?_ _) | (refine Below.setCell ?_ (by first | omega | (simp; done) | (simp; omega)) _) | (refine Below.alloc ?_ (by first | omega | (simp; done) | (simp; omega)) _) | (refine Below.trans ?_ (Below.mono (by assumption) (by first | omega | (simp; done) | (simp; omega))))))⟩; exact ret_sb (by unfold oneP; repeat' (first | rfl | omega | (dsimp only; omega) | split | (exfalso; omega))) (by unfold oneP; repeat' (first | rfl | omega | (dsimp only; omega) | split | (exfalso; omega))) (by unfold oneP; repeat' (first | rfl | omega | (dsimp only; omega) | split | (exfalso; omega))))
  by_cases q3 : op = 3
  · subst q3
    by_cases h1 : a.1 = -9223372036854775808
    · by_cases h2 : a.2 = -9223372036854775808
      · have HE : Hid (oneP 3 a = (a, true)) := by unfold Hid oneP; rw [if_neg (by omega), if_pos rfl, if_neg (by omega), if_pos h2]
        have HA : Hid (a = (-9223372036854775808, -9223372036854775808)) := Prod.ext h1 h2
        go_enter Tryz.func24, Tryz.ntmps24
        go_wp2_with (go_at_call 56; refine (nanyr_any _).mono ?_; rintro e w1 ⟨rfl, o1, rfl⟩)
        all_goals (refine bodyPost_ret (by simp [results, Tryz.results24, go_sem]; try rfl) rfl ⟨?_, (by repeat (first | exact Below.refl _ _ | (refine Below.drew ?_) | (refine below_drewN ?_ _) | (refine Below.setCell ?_ (by first | omega | (simp; done) | (simp; omega)) _) | (refine Below.alloc ?_ (by first | omega | (simp; done) | (simp; omega)) _) | (refine Below.trans ?_ (Below.mono (by assumption) (by first | omega | (simp; done) | (simp; omega))))))⟩; rw [HE.out, HA.out])
      · have HE : Hid (oneP 3 a = ((-9223372036854775808, 9223372036854775807), true)) := by unfold Hid oneP; rw [if_neg (by omega), if_pos rfl, if_neg (by omega), if_neg h2]; rfl
        go_enter Tryz.func24, Tryz.ntmps24
        go_wp2_with (go_at_call 56; refine (nanyr_any _).mono ?_; rintro e w1 ⟨rfl, o1, rfl⟩)
        all_goals (refine bodyPost_ret (by simp [results, Tryz.results24, go_sem]; try rfl) rfl ⟨?_, (by repeat (first | exact Below.refl _ _ | (refine Below.drew ?_) | (refine below_drewN ?_ _) | (refine Below.setCell ?_ (by first | omega | (simp; done) | (simp; omega)) _) | (refine Below.alloc ?_ (by first | omega | (simp; done) | (simp; omega)) _) | (refine Below.trans ?_ (Below.mono (by assumption) (by first | omega | (simp; done) | (simp; omega))))))⟩; rw [HE.out])
    · have HE : Hid (oneP 3 a = ((-a.2, -a.1), true)) := by unfold Hid oneP; rw [if_neg (by omega), if_pos rfl, if_pos h1]
      have h3 : -9223372036854775808 < a.1 := by omega
      go_enter Tryz.func24, Tryz.ntmps24
      go_wp2_with (go_at_call 56; refine (nanyr_any _).mono ?_; rintro e w1 ⟨rfl, o1, rfl⟩)
      all_goals (refine bodyPost_ret (by simp [results, Tryz.results24, go_sem]; try rfl) rfl ⟨?_, (by repeat (first | exact Below.refl _ _ | (refine Below.drew ?_) | (refine below_drewN ?_ _) | (refine Below.setCell ?_ (by first | omega | (simp; done) | (simp; omega)) _) | (refine Below.alloc ?_ (by first | omega | (simp; done) | (simp; omega)) _) | (refine Below.trans ?_ (Below.mono (by assumption) (by first | omega | (simp; done) | (simp; omega))))))⟩; rw [HE.out])
  · have e : oneP op a = ((0, 0), false) := by unfold oneP; rw [if_neg q2, if_neg q3]
    rw [e]
    go_enter Tryz.func24, Tryz.ntmps24
    go_wp2
    all_goals (refine bodyPost_ret (by simp [results, Tryz.results24, go_sem]; try rfl) rfl ⟨?_, (by repeat (first | exact Below.refl _ _ | (refine Below.drew ?_) | (refine below_drewN ?_ _) | (refine Below.setCell ?_ (by first | omega | (simp; done) | (simp; omega)) _) | (refine Below.alloc ?_ (by first | omega | (simp; done) | (simp; omega)) _) | (refine Below.trans ?_ (Below.mono (by assumption) (by first | omega | (simp; done) | (simp; omega))))))⟩; rfl)
end Go.Proofs.YthiacdbjlkpfgaaGreatDoor
namespace Go.Proofs.YthiacdbjlkpfgaaGreatDoor
open Go.RowKit
set_option maxHeartbeats 8000000 in
theorem remr_any (al ah bl bh : Int) (w : World) (ha : Sp (al, ah)) (hb : Sp (bl, bh)) : Calls Tryz.prog 93 #[.agg #[.int .i64 al, .int .i64 ah], .agg #[.int .i64 bl, .int .i64 bh]] w fun e w' => e = .returned (.tuple #[.agg #[.int .i64 ((remsP (al, ah) (bl, bh)).1).1, .int .i64 ((remsP (al, ah) (bl, bh)).1).2], .bool (remsP (al, ah) (bl, bh)).2]) ∧ Below w.heap.size w w' := by
  have hbb := hb
  unfold Sp at ha hb
  obtain ⟨a1, a2, a3⟩ := ha
  obtain ⟨b1, b2, b3⟩ := hb
  dsimp only at a1 a2 a3 b1 b2 b3
  by_cases h : bl = 0 ∧ bh = 0
  · obtain ⟨rfl, rfl⟩ := h
    go_enter Tryz.func93, Tryz.ntmps93
    go_wp2
    all_goals (refine bodyPost_ret (by simp [results, Tryz.results93, go_sem]; try rfl) rfl ⟨?_, (by repeat (first | exact Below.refl _ _ | (refine Below.drew ?_) | (refine below_drewN ?_ _) | (refine Below.setCell ?_ (by first | omega | (simp; done) | (simp; omega)) _) | (refine Below.alloc ?_ (by first | omega | (simp; done) | (simp; omega)) _) | (refine Below.trans ?_ (Below.mono (by assumption) (by first | omega | (simp; done) | (simp; omega))))))⟩; exact ret_sb (by unfold remsP; repeat' (first | rfl | omega | (dsimp only; omega) | split | (exfalso; omega))) (by unfold remsP; repeat' (first | rfl | omega | (dsimp only; omega) | split | (exfalso; omega))) (by unfold remsP; repeat' (first | rfl | omega | (dsimp only; omega) | split | (exfalso; omega))))
  · have hf : 0 ≤ farP (bl, bh) ∧ farP (bl, bh) ≤ 9223372036854775807 := by unfold farP; dsimp only; omega
    have HR : Hid (remsP (al, ah) (bl, bh) = ((max (min al 0) (-(farP (bl, bh))), min (max ah 0) (farP (bl, bh))), true)) := by unfold Hid remsP; rw [if_neg h]
    have hfa : ∀ w : World, Calls Tryz.prog 112 #[.agg #[.int .i64 bl, .int .i64 bh]] w fun e w' => e = .returned (.int .i64 (farP (bl, bh))) ∧ New1 w w' := fun w => farr_any (bl, bh) w hbb
    generalize farP (bl, bh) = m at *
    obtain ⟨m1, m2⟩ := hf
    clear hbb
    by_cases h0 : bl = 0
    · subst h0
      have h0 : ¬ bh = 0 := fun e => h ⟨rfl, e⟩
      clear h
      by_cases c1 : al < 0 <;> by_cases c2 : 0 < ah <;>
      · go_enter Tryz.func93, Tryz.ntmps93
        go_wp2_with (go_at_call 112; refine (hfa _).mono ?_; rintro e w1 ⟨rfl, o1, rfl⟩)
        all_goals (refine bodyPost_ret (by simp [results, Tryz.results93, go_sem]; try rfl) rfl ⟨?_, (by repeat (first | exact Below.refl _ _ | (refine Below.drew ?_) | (refine below_drewN ?_ _) | (refine Below.setCell ?_ (by first | omega | (simp; done) | (simp; omega)) _) | (refine Below.alloc ?_ (by first | omega | (simp; done) | (simp; omega)) _) | (refine Below.trans ?_ (Below.mono (by assumption) (by first | omega | (simp; done) | (simp; omega))))))⟩; rw [HR.out]; exact ret_sb (by dsimp only; omega) (by dsimp only; omega) rfl)
    · clear h
      by_cases c1 : al < 0 <;> by_cases c2 : 0 < ah <;>
      · go_enter Tryz.func93, Tryz.ntmps93
        go_wp2_with (go_at_call 112; refine (hfa _).mono ?_; rintro e w1 ⟨rfl, o1, rfl⟩)
        all_goals (refine bodyPost_ret (by simp [results, Tryz.results93, go_sem]; try rfl) rfl ⟨?_, (by repeat (first | exact Below.refl _ _ | (refine Below.drew ?_) | (refine below_drewN ?_ _) | (refine Below.setCell ?_ (by first | omega | (simp; done) | (simp; omega)) _) | (refine Below.alloc ?_ (by first | omega | (simp; done) | (simp; omega)) _) | (refine Below.trans ?_ (Below.mono (by assumption) (by first | omega | (simp; done) | (simp; omega))))))⟩; rw [HR.out]; exact ret_sb (by dsimp only; omega) (by dsimp only; omega) rfl)
set_option maxHeartbeats 8000000 in
theorem branchr_no (al ah : Int) (w : World) : Calls Tryz.prog 48 #[.agg #[.int .i64 al, .int .i64 ah], .bool false] w fun e w' => e = .returned (.tuple #[.agg #[.int .i64 ((brF (al, ah)).1).1, .int .i64 ((brF (al, ah)).1).2], .bool (brF (al, ah)).2]) ∧ Below w.heap.size w w' := by
  by_cases h : al ≤ 0 ∧ 0 ≤ ah
  · have HE : Hid (brF (al, ah) = ((0, 0), true)) := by unfold Hid brF; rw [if_pos h]
    have hh : hasR al ah 0 = true := by unfold hasR; rw [Bool.and_eq_true, decide_eq_true_iff, decide_eq_true_iff]; exact h
    clear h
    go_enter Tryz.func48, Tryz.ntmps48
    go_wp2_with (go_at_call 98; refine (nhasr_any _ _ _ _).mono ?_; rintro e w1 ⟨rfl, o1, rfl⟩)
    all_goals (refine bodyPost_ret (by simp [results, Tryz.results48, go_sem]; try rfl) rfl ⟨?_, (by repeat (first | exact Below.refl _ _ | (refine Below.drew ?_) | (refine below_drewN ?_ _) | (refine Below.setCell ?_ (by first | omega | (simp; done) | (simp; omega)) _) | (refine Below.alloc ?_ (by first | omega | (simp; done) | (simp; omega)) _) | (refine Below.trans ?_ (Below.mono (by assumption) (by first | omega | (simp; done) | (simp; omega))))))⟩; rw [HE.out])
  · have HE : Hid (brF (al, ah) = ((0, 0), false)) := by unfold Hid brF; rw [if_neg h]
    have hh : hasR al ah 0 = false := by unfold hasR; rw [Bool.and_eq_false_iff, decide_eq_false_iff_not, decide_eq_false_iff_not]; omega
    clear h
    go_enter Tryz.func48, Tryz.ntmps48
    go_wp2_with (go_at_call 98; refine (nhasr_any _ _ _ _).mono ?_; rintro e w1 ⟨rfl, o1, rfl⟩)
    all_goals (refine bodyPost_ret (by simp [results, Tryz.results48, go_sem]; try rfl) rfl ⟨?_, (by repeat (first | exact Below.refl _ _ | (refine Below.drew ?_) | (refine below_drewN ?_ _) | (refine Below.setCell ?_ (by first | omega | (simp; done) | (simp; omega)) _) | (refine Below.alloc ?_ (by first | omega | (simp; done) | (simp; omega)) _) | (refine Below.trans ?_ (Below.mono (by assumption) (by first | omega | (simp; done) | (simp; omega))))))⟩; rw [HE.out])
set_option maxHeartbeats 8000000 in
theorem branchr_yes (al ah : Int) (w : World) : Calls Tryz.prog 48 #[.agg #[.int .i64 al, .int .i64 ah], .bool true] w fun e w' => e = .returned (.tuple #[.agg #[.int .i64 ((brT (al, ah)).1).1, .int .i64 ((brT (al, ah)).1).2], .bool (brT (al, ah)).2]) ∧ Below w.heap.size w w' := by
  by_cases h1 : al = 0
  · subst h1
    by_cases h2 : ah = 0
    · subst h2
      go_enter Tryz.func48, Tryz.ntmps48
      go_wp2
      all_goals (refine bodyPost_ret (by simp [results, Tryz.results48, go_sem]; try rfl) rfl ⟨?_, (by repeat (first | exact Below.refl _ _ | (refine Below.drew ?_) | (refine below_drewN ?_ _) | (refine Below.setCell ?_ (by first | omega | (simp; done) | (simp; omega)) _) | (refine Below.alloc ?_ (by first | omega | (simp; done) | (simp; omega)) _) | (refine Below.trans ?_ (Below.mono (by assumption) (by first | omega | (simp; done) | (simp; omega))))))⟩; exact ret_sb (by unfold brT; repeat' (first | rfl | omega | (dsimp only; omega) | split | (exfalso; omega))) (by unfold brT; repeat' (first | rfl | omega | (dsimp only; omega) | split | (exfalso; omega))) (by unfold brT; repeat' (first | rfl | omega | (dsimp only; omega) | split | (exfalso; omega))))
    · have c2 : (ah == 0) = false := by rw [beq_eq_false_iff_ne]; exact h2
      go_enter Tryz.func48, Tryz.ntmps48
      go_wp2
      all_goals (refine bodyPost_ret (by simp [results, Tryz.results48, go_sem]; try rfl) rfl ⟨?_, (by repeat (first | exact Below.refl _ _ | (refine Below.drew ?_) | (refine below_drewN ?_ _) | (refine Below.setCell ?_ (by first | omega | (simp; done) | (simp; omega)) _) | (refine Below.alloc ?_ (by first | omega | (simp; done) | (simp; omega)) _) | (refine Below.trans ?_ (Below.mono (by assumption) (by first | omega | (simp; done) | (simp; omega))))))⟩; exact ret_sb (by unfold brT; repeat' (first | rfl | omega | (dsimp only; omega) | split | (exfalso; omega))) (by unfold brT; repeat' (first | rfl | omega | (dsimp only; omega) | split | (exfalso; omega))) (by unfold brT; repeat' (first | rfl | omega | (dsimp only; omega) | split | (exfalso; omega))))
  · have c1 : (al == 0) = false := by rw [beq_eq_false_iff_ne]; exact h1
    by_cases h2 : ah = 0
    · subst h2
      go_enter Tryz.func48, Tryz.ntmps48
      go_wp2
      all_goals (refine bodyPost_ret (by simp [results, Tryz.results48, go_sem]; try rfl) rfl ⟨?_, (by repeat (first | exact Below.refl _ _ | (refine Below.drew ?_) | (refine below_drewN ?_ _) | (refine Below.setCell ?_ (by first | omega | (simp; done) | (simp; omega)) _) | (refine Below.alloc ?_ (by first | omega | (simp; done) | (simp; omega)) _) | (refine Below.trans ?_ (Below.mono (by assumption) (by first | omega | (simp; done) | (simp; omega))))))⟩; exact ret_sb (by unfold brT; repeat' (first | rfl | omega | (dsimp only; omega) | split | (exfalso; omega))) (by unfold brT; repeat' (first | rfl | omega | (dsimp only; omega) | split | (exfalso; omega))) (by unfold brT; repeat' (first | rfl | omega | (dsimp only; omega) | split | (exfalso; omega))))
    · have c2 : (ah == 0) = false := by rw [beq_eq_false_iff_ne]; exact h2
      go_enter Tryz.func48, Tryz.ntmps48
      go_wp2
      all_goals (refine bodyPost_ret (by simp [results, Tryz.results48, go_sem]; try rfl) rfl ⟨?_, (by repeat (first | exact Below.refl _ _ | (refine Below.drew ?_) | (refine below_drewN ?_ _) | (refine Below.setCell ?_ (by first | omega | (simp; done) | (simp; omega)) _) | (refine Below.alloc ?_ (by first | omega | (simp; done) | (simp; omega)) _) | (refine Below.trans ?_ (Below.mono (by assumption) (by first | omega | (simp; done) | (simp; omega))))))⟩; exact ret_sb (by unfold brT; repeat' (first | rfl | omega | (dsimp only; omega) | split | (exfalso; omega))) (by unfold brT; repeat' (first | rfl | omega | (dsimp only; omega) | split | (exfalso; omega))) (by unfold brT; repeat' (first | rfl | omega | (dsimp only; omega) | split | (exfalso; omega))))
theorem branchr_any (a : Int × Int) (yes : Bool) (w : World) : Calls Tryz.prog 48 #[.agg #[.int .i64 a.1, .int .i64 a.2], .bool yes] w fun e w' => e = .returned (.tuple #[.agg #[.int .i64 ((branchP a yes).1).1, .int .i64 ((branchP a yes).1).2], .bool (branchP a yes).2]) ∧ Below w.heap.size w w' := by
  cases yes
  · exact branchr_no a.1 a.2 w
  · exact branchr_yes a.1 a.2 w
end Go.Proofs.YthiacdbjlkpfgaaGreatDoor
