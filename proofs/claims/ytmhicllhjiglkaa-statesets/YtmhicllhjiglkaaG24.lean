import Derived.Test.YtmhicllhjiglkaaG06
import Derived.Test.YtmhicllhjiglkaaG01
namespace Go.Proofs.Ytmhicllhjiglkaa
open Go.RowKit
theorem within_or (x y : BitVec 3) : (up (x ||| y) == up y) = withinS x y := by
  rw [up_beq]
  revert x y
  decide
set_option maxRecDepth 100000 in
set_option maxHeartbeats 16000000 in
theorem withinr_V (x y : V) (w : World) : Calls Try.prog 52 #[.agg #[.int .i64 (up x.s), .bool x.k, .int .i64 x.n, .int .i64 x.lo, .int .i64 x.hi, .int .i64 (up x.p)], .agg #[.int .i64 (up y.s), .bool y.k, .int .i64 y.n, .int .i64 y.lo, .int .i64 y.hi, .int .i64 (up y.p)]] w fun e w' => e = .returned (.bool (withinV x y)) ∧ Below w.heap.size w w' := by
  have e1 := or_up x.s y.s
  have e2 := or_up x.p y.p
  have h1 := within_or x.s y.s
  have h2 := within_or x.p y.p
  have c2 := fun w => kwithinr_any x.k x.n y.k y.n w
  have c3 := fun w => bel2 (nwithinr_any x.lo x.hi y.lo y.hi w)
  have HR : Hid (withinV x y = (withinS x.s y.s && (withinK x.k x.n y.k y.n && (withinR x.lo x.hi y.lo y.hi && withinS x.p y.p)))) := rfl
  generalize withinV x y = r at *
  generalize withinS x.s y.s = t1 at *
  generalize withinK x.k x.n y.k y.n = t2 at *
  generalize withinR x.lo x.hi y.lo y.hi = t3 at *
  generalize withinS x.p y.p = t4 at *
  cases t1
  · have x0 : Br ((w.alloc (.cells #[.int .i64 (up x.s), .bool x.k, .int .i64 x.n, .int .i64 x.lo, .int .i64 x.hi, .int .i64 (up x.p)] 48)).alloc (.cells #[.int .i64 (up y.s), .bool y.k, .int .i64 y.n, .int .i64 y.lo, .int .i64 y.hi, .int .i64 (up y.p)] 48)) (w.heap.size) (up x.s) x.k x.n x.lo x.hi (up x.p) := ((Br.new w (up x.s) x.k x.n x.lo x.hi (up x.p) 48)).keep ((Below.refl _ _).alloc (Nat.le_refl _) _)
    have x1 : Br ((w.alloc (.cells #[.int .i64 (up x.s), .bool x.k, .int .i64 x.n, .int .i64 x.lo, .int .i64 x.hi, .int .i64 (up x.p)] 48)).alloc (.cells #[.int .i64 (up y.s), .bool y.k, .int .i64 y.n, .int .i64 y.lo, .int .i64 y.hi, .int .i64 (up y.p)] 48)) (w.heap.size + 1) (up y.s) y.k y.n y.lo y.hi (up y.p) := (by simpa using Br.new (w.alloc (.cells #[.int .i64 (up x.s), .bool x.k, .int .i64 x.n, .int .i64 x.lo, .int .i64 x.hi, .int .i64 (up x.p)] 48)) (up y.s) y.k y.n y.lo y.hi (up y.p) 48 : Br ((w.alloc (.cells #[.int .i64 (up x.s), .bool x.k, .int .i64 x.n, .int .i64 x.lo, .int .i64 x.hi, .int .i64 (up x.p)] 48)).alloc (.cells #[.int .i64 (up y.s), .bool y.k, .int .i64 y.n, .int .i64 y.lo, .int .i64 y.hi, .int .i64 (up y.p)] 48)) (w.heap.size + 1) (up y.s) y.k y.n y.lo y.hi (up y.p))
    have xb : Below w.heap.size w ((w.alloc (.cells #[.int .i64 (up x.s), .bool x.k, .int .i64 x.n, .int .i64 x.lo, .int .i64 x.hi, .int .i64 (up x.p)] 48)).alloc (.cells #[.int .i64 (up y.s), .bool y.k, .int .i64 y.n, .int .i64 y.lo, .int .i64 y.hi, .int .i64 (up y.p)] 48)) := (by repeat (first | exact Below.refl _ _ | (refine Below.drew ?_) | (refine below_drewN ?_ _) | (refine Below.setCell ?_ (by first | omega | (simp; done) | (simp; omega)) _) | (refine Below.alloc ?_ (by first | omega | (simp; done) | (simp; omega)) _) | (refine Below.trans ?_ (Below.mono (by assumption) (by first | omega | (simp; done) | (simp; omega))))))
    go_enter Try.func52, Try.ntmps52
    go_upto_region 1 with fail
    go_name_world W hW
    rw [hW] at x0 x1 xb
    clear hW
    obtain ⟨N, hN⟩ : ∃ N, N = w.heap.size := ⟨_, rfl⟩
    rw [← hN] at x0 x1 xb ⊢
    have HN : Hid (N = w.heap.size) := hN
    clear hN
    have HA := hide (And.intro x0 (And.intro x1 xb))
    clear x0 x1 xb
    have a0 := HA.out.1.c0
    have a1 := HA.out.1.c1
    have a2 := HA.out.1.c2
    have a3 := HA.out.1.c3
    have a4 := HA.out.1.c4
    have a5 := HA.out.1.c5
    have b0 := HA.out.2.1.c0
    have b1 := HA.out.2.1.c1
    have b2 := HA.out.2.1.c2
    have b3 := HA.out.2.1.c3
    have b4 := HA.out.2.1.c4
    have b5 := HA.out.2.1.c5
    go_wp2_with (first | (go_at_call 100; refine (c2 _).mono ?_; rintro e w1 ⟨rfl, hb1⟩; have HB := hide (And.intro (HA.out.1.keep hb1) (And.intro (HA.out.2.1.keep hb1) (HA.out.2.2.trans (hb1.mono (Nat.le_of_lt HA.out.1.lt))))); clear HA hb1 a0 a1 a2 a3 a4 a5 b0 b1 b2 b3 b4 b5; have HA := HB; clear HB; have a0 := HA.out.1.c0; have a1 := HA.out.1.c1; have a2 := HA.out.1.c2; have a3 := HA.out.1.c3; have a4 := HA.out.1.c4; have a5 := HA.out.1.c5; have b0 := HA.out.2.1.c0; have b1 := HA.out.2.1.c1; have b2 := HA.out.2.1.c2; have b3 := HA.out.2.1.c3; have b4 := HA.out.2.1.c4; have b5 := HA.out.2.1.c5) | (go_at_call 101; refine (c3 _).mono ?_; rintro e w1 ⟨rfl, hb1⟩; have HB := hide (And.intro (HA.out.1.keep hb1) (And.intro (HA.out.2.1.keep hb1) (HA.out.2.2.trans (hb1.mono (Nat.le_of_lt HA.out.1.lt))))); clear HA hb1 a0 a1 a2 a3 a4 a5 b0 b1 b2 b3 b4 b5; have HA := HB; clear HB; have a0 := HA.out.1.c0; have a1 := HA.out.1.c1; have a2 := HA.out.1.c2; have a3 := HA.out.1.c3; have a4 := HA.out.1.c4; have a5 := HA.out.1.c5; have b0 := HA.out.2.1.c0; have b1 := HA.out.2.1.c1; have b2 := HA.out.2.1.c2; have b3 := HA.out.2.1.c3; have b4 := HA.out.2.1.c4; have b5 := HA.out.2.1.c5))
    clear c2 c3
    go_ret
    exact ⟨by rw [HR.out]; rfl, by rw [← HN.out]; exact HA.out.2.2⟩
  · cases t2
    · have x0 : Br ((w.alloc (.cells #[.int .i64 (up x.s), .bool x.k, .int .i64 x.n, .int .i64 x.lo, .int .i64 x.hi, .int .i64 (up x.p)] 48)).alloc (.cells #[.int .i64 (up y.s), .bool y.k, .int .i64 y.n, .int .i64 y.lo, .int .i64 y.hi, .int .i64 (up y.p)] 48)) (w.heap.size) (up x.s) x.k x.n x.lo x.hi (up x.p) := ((Br.new w (up x.s) x.k x.n x.lo x.hi (up x.p) 48)).keep ((Below.refl _ _).alloc (Nat.le_refl _) _)
      have x1 : Br ((w.alloc (.cells #[.int .i64 (up x.s), .bool x.k, .int .i64 x.n, .int .i64 x.lo, .int .i64 x.hi, .int .i64 (up x.p)] 48)).alloc (.cells #[.int .i64 (up y.s), .bool y.k, .int .i64 y.n, .int .i64 y.lo, .int .i64 y.hi, .int .i64 (up y.p)] 48)) (w.heap.size + 1) (up y.s) y.k y.n y.lo y.hi (up y.p) := (by simpa using Br.new (w.alloc (.cells #[.int .i64 (up x.s), .bool x.k, .int .i64 x.n, .int .i64 x.lo, .int .i64 x.hi, .int .i64 (up x.p)] 48)) (up y.s) y.k y.n y.lo y.hi (up y.p) 48 : Br ((w.alloc (.cells #[.int .i64 (up x.s), .bool x.k, .int .i64 x.n, .int .i64 x.lo, .int .i64 x.hi, .int .i64 (up x.p)] 48)).alloc (.cells #[.int .i64 (up y.s), .bool y.k, .int .i64 y.n, .int .i64 y.lo, .int .i64 y.hi, .int .i64 (up y.p)] 48)) (w.heap.size + 1) (up y.s) y.k y.n y.lo y.hi (up y.p))
      have xb : Below w.heap.size w ((w.alloc (.cells #[.int .i64 (up x.s), .bool x.k, .int .i64 x.n, .int .i64 x.lo, .int .i64 x.hi, .int .i64 (up x.p)] 48)).alloc (.cells #[.int .i64 (up y.s), .bool y.k, .int .i64 y.n, .int .i64 y.lo, .int .i64 y.hi, .int .i64 (up y.p)] 48)) := (by repeat (first | exact Below.refl _ _ | (refine Below.drew ?_) | (refine below_drewN ?_ _) | (refine Below.setCell ?_ (by first | omega | (simp; done) | (simp; omega)) _) | (refine Below.alloc ?_ (by first | omega | (simp; done) | (simp; omega)) _) | (refine Below.trans ?_ (Below.mono (by assumption) (by first | omega | (simp; done) | (simp; omega))))))
      go_enter Try.func52, Try.ntmps52
      go_upto_region 1 with fail
      go_name_world W hW
      rw [hW] at x0 x1 xb
      clear hW
      obtain ⟨N, hN⟩ : ∃ N, N = w.heap.size := ⟨_, rfl⟩
      rw [← hN] at x0 x1 xb ⊢
      have HN : Hid (N = w.heap.size) := hN
      clear hN
      have HA := hide (And.intro x0 (And.intro x1 xb))
      clear x0 x1 xb
      have a0 := HA.out.1.c0
      have a1 := HA.out.1.c1
      have a2 := HA.out.1.c2
      have a3 := HA.out.1.c3
      have a4 := HA.out.1.c4
      have a5 := HA.out.1.c5
      have b0 := HA.out.2.1.c0
      have b1 := HA.out.2.1.c1
      have b2 := HA.out.2.1.c2
      have b3 := HA.out.2.1.c3
      have b4 := HA.out.2.1.c4
      have b5 := HA.out.2.1.c5
      go_wp2_with (first | (go_at_call 100; refine (c2 _).mono ?_; rintro e w1 ⟨rfl, hb1⟩; have HB := hide (And.intro (HA.out.1.keep hb1) (And.intro (HA.out.2.1.keep hb1) (HA.out.2.2.trans (hb1.mono (Nat.le_of_lt HA.out.1.lt))))); clear HA hb1 a0 a1 a2 a3 a4 a5 b0 b1 b2 b3 b4 b5; have HA := HB; clear HB; have a0 := HA.out.1.c0; have a1 := HA.out.1.c1; have a2 := HA.out.1.c2; have a3 := HA.out.1.c3; have a4 := HA.out.1.c4; have a5 := HA.out.1.c5; have b0 := HA.out.2.1.c0; have b1 := HA.out.2.1.c1; have b2 := HA.out.2.1.c2; have b3 := HA.out.2.1.c3; have b4 := HA.out.2.1.c4; have b5 := HA.out.2.1.c5) | (go_at_call 101; refine (c3 _).mono ?_; rintro e w1 ⟨rfl, hb1⟩; have HB := hide (And.intro (HA.out.1.keep hb1) (And.intro (HA.out.2.1.keep hb1) (HA.out.2.2.trans (hb1.mono (Nat.le_of_lt HA.out.1.lt))))); clear HA hb1 a0 a1 a2 a3 a4 a5 b0 b1 b2 b3 b4 b5; have HA := HB; clear HB; have a0 := HA.out.1.c0; have a1 := HA.out.1.c1; have a2 := HA.out.1.c2; have a3 := HA.out.1.c3; have a4 := HA.out.1.c4; have a5 := HA.out.1.c5; have b0 := HA.out.2.1.c0; have b1 := HA.out.2.1.c1; have b2 := HA.out.2.1.c2; have b3 := HA.out.2.1.c3; have b4 := HA.out.2.1.c4; have b5 := HA.out.2.1.c5))
      clear c2 c3
      go_ret
      exact ⟨by rw [HR.out]; rfl, by rw [← HN.out]; exact HA.out.2.2⟩
    · cases t3
      · have x0 : Br ((w.alloc (.cells #[.int .i64 (up x.s), .bool x.k, .int .i64 x.n, .int .i64 x.lo, .int .i64 x.hi, .int .i64 (up x.p)] 48)).alloc (.cells #[.int .i64 (up y.s), .bool y.k, .int .i64 y.n, .int .i64 y.lo, .int .i64 y.hi, .int .i64 (up y.p)] 48)) (w.heap.size) (up x.s) x.k x.n x.lo x.hi (up x.p) := ((Br.new w (up x.s) x.k x.n x.lo x.hi (up x.p) 48)).keep ((Below.refl _ _).alloc (Nat.le_refl _) _)
        have x1 : Br ((w.alloc (.cells #[.int .i64 (up x.s), .bool x.k, .int .i64 x.n, .int .i64 x.lo, .int .i64 x.hi, .int .i64 (up x.p)] 48)).alloc (.cells #[.int .i64 (up y.s), .bool y.k, .int .i64 y.n, .int .i64 y.lo, .int .i64 y.hi, .int .i64 (up y.p)] 48)) (w.heap.size + 1) (up y.s) y.k y.n y.lo y.hi (up y.p) := (by simpa using Br.new (w.alloc (.cells #[.int .i64 (up x.s), .bool x.k, .int .i64 x.n, .int .i64 x.lo, .int .i64 x.hi, .int .i64 (up x.p)] 48)) (up y.s) y.k y.n y.lo y.hi (up y.p) 48 : Br ((w.alloc (.cells #[.int .i64 (up x.s), .bool x.k, .int .i64 x.n, .int .i64 x.lo, .int .i64 x.hi, .int .i64 (up x.p)] 48)).alloc (.cells #[.int .i64 (up y.s), .bool y.k, .int .i64 y.n, .int .i64 y.lo, .int .i64 y.hi, .int .i64 (up y.p)] 48)) (w.heap.size + 1) (up y.s) y.k y.n y.lo y.hi (up y.p))
        have xb : Below w.heap.size w ((w.alloc (.cells #[.int .i64 (up x.s), .bool x.k, .int .i64 x.n, .int .i64 x.lo, .int .i64 x.hi, .int .i64 (up x.p)] 48)).alloc (.cells #[.int .i64 (up y.s), .bool y.k, .int .i64 y.n, .int .i64 y.lo, .int .i64 y.hi, .int .i64 (up y.p)] 48)) := (by repeat (first | exact Below.refl _ _ | (refine Below.drew ?_) | (refine below_drewN ?_ _) | (refine Below.setCell ?_ (by first | omega | (simp; done) | (simp; omega)) _) | (refine Below.alloc ?_ (by first | omega | (simp; done) | (simp; omega)) _) | (refine Below.trans ?_ (Below.mono (by assumption) (by first | omega | (simp; done) | (simp; omega))))))
        go_enter Try.func52, Try.ntmps52
        go_upto_region 1 with fail
        go_name_world W hW
        rw [hW] at x0 x1 xb
        clear hW
        obtain ⟨N, hN⟩ : ∃ N, N = w.heap.size := ⟨_, rfl⟩
        rw [← hN] at x0 x1 xb ⊢
        have HN : Hid (N = w.heap.size) := hN
        clear hN
        have HA := hide (And.intro x0 (And.intro x1 xb))
        clear x0 x1 xb
        have a0 := HA.out.1.c0
        have a1 := HA.out.1.c1
        have a2 := HA.out.1.c2
        have a3 := HA.out.1.c3
        have a4 := HA.out.1.c4
        have a5 := HA.out.1.c5
        have b0 := HA.out.2.1.c0
        have b1 := HA.out.2.1.c1
        have b2 := HA.out.2.1.c2
        have b3 := HA.out.2.1.c3
        have b4 := HA.out.2.1.c4
        have b5 := HA.out.2.1.c5
        go_wp2_with (first | (go_at_call 100; refine (c2 _).mono ?_; rintro e w1 ⟨rfl, hb1⟩; have HB := hide (And.intro (HA.out.1.keep hb1) (And.intro (HA.out.2.1.keep hb1) (HA.out.2.2.trans (hb1.mono (Nat.le_of_lt HA.out.1.lt))))); clear HA hb1 a0 a1 a2 a3 a4 a5 b0 b1 b2 b3 b4 b5; have HA := HB; clear HB; have a0 := HA.out.1.c0; have a1 := HA.out.1.c1; have a2 := HA.out.1.c2; have a3 := HA.out.1.c3; have a4 := HA.out.1.c4; have a5 := HA.out.1.c5; have b0 := HA.out.2.1.c0; have b1 := HA.out.2.1.c1; have b2 := HA.out.2.1.c2; have b3 := HA.out.2.1.c3; have b4 := HA.out.2.1.c4; have b5 := HA.out.2.1.c5) | (go_at_call 101; refine (c3 _).mono ?_; rintro e w1 ⟨rfl, hb1⟩; have HB := hide (And.intro (HA.out.1.keep hb1) (And.intro (HA.out.2.1.keep hb1) (HA.out.2.2.trans (hb1.mono (Nat.le_of_lt HA.out.1.lt))))); clear HA hb1 a0 a1 a2 a3 a4 a5 b0 b1 b2 b3 b4 b5; have HA := HB; clear HB; have a0 := HA.out.1.c0; have a1 := HA.out.1.c1; have a2 := HA.out.1.c2; have a3 := HA.out.1.c3; have a4 := HA.out.1.c4; have a5 := HA.out.1.c5; have b0 := HA.out.2.1.c0; have b1 := HA.out.2.1.c1; have b2 := HA.out.2.1.c2; have b3 := HA.out.2.1.c3; have b4 := HA.out.2.1.c4; have b5 := HA.out.2.1.c5))
        clear c2 c3
        go_ret
        exact ⟨by rw [HR.out]; rfl, by rw [← HN.out]; exact HA.out.2.2⟩
      · cases t4
        · have x0 : Br ((w.alloc (.cells #[.int .i64 (up x.s), .bool x.k, .int .i64 x.n, .int .i64 x.lo, .int .i64 x.hi, .int .i64 (up x.p)] 48)).alloc (.cells #[.int .i64 (up y.s), .bool y.k, .int .i64 y.n, .int .i64 y.lo, .int .i64 y.hi, .int .i64 (up y.p)] 48)) (w.heap.size) (up x.s) x.k x.n x.lo x.hi (up x.p) := ((Br.new w (up x.s) x.k x.n x.lo x.hi (up x.p) 48)).keep ((Below.refl _ _).alloc (Nat.le_refl _) _)
          have x1 : Br ((w.alloc (.cells #[.int .i64 (up x.s), .bool x.k, .int .i64 x.n, .int .i64 x.lo, .int .i64 x.hi, .int .i64 (up x.p)] 48)).alloc (.cells #[.int .i64 (up y.s), .bool y.k, .int .i64 y.n, .int .i64 y.lo, .int .i64 y.hi, .int .i64 (up y.p)] 48)) (w.heap.size + 1) (up y.s) y.k y.n y.lo y.hi (up y.p) := (by simpa using Br.new (w.alloc (.cells #[.int .i64 (up x.s), .bool x.k, .int .i64 x.n, .int .i64 x.lo, .int .i64 x.hi, .int .i64 (up x.p)] 48)) (up y.s) y.k y.n y.lo y.hi (up y.p) 48 : Br ((w.alloc (.cells #[.int .i64 (up x.s), .bool x.k, .int .i64 x.n, .int .i64 x.lo, .int .i64 x.hi, .int .i64 (up x.p)] 48)).alloc (.cells #[.int .i64 (up y.s), .bool y.k, .int .i64 y.n, .int .i64 y.lo, .int .i64 y.hi, .int .i64 (up y.p)] 48)) (w.heap.size + 1) (up y.s) y.k y.n y.lo y.hi (up y.p))
          have xb : Below w.heap.size w ((w.alloc (.cells #[.int .i64 (up x.s), .bool x.k, .int .i64 x.n, .int .i64 x.lo, .int .i64 x.hi, .int .i64 (up x.p)] 48)).alloc (.cells #[.int .i64 (up y.s), .bool y.k, .int .i64 y.n, .int .i64 y.lo, .int .i64 y.hi, .int .i64 (up y.p)] 48)) := (by repeat (first | exact Below.refl _ _ | (refine Below.drew ?_) | (refine below_drewN ?_ _) | (refine Below.setCell ?_ (by first | omega | (simp; done) | (simp; omega)) _) | (refine Below.alloc ?_ (by first | omega | (simp; done) | (simp; omega)) _) | (refine Below.trans ?_ (Below.mono (by assumption) (by first | omega | (simp; done) | (simp; omega))))))
          go_enter Try.func52, Try.ntmps52
          go_upto_region 1 with fail
          go_name_world W hW
          rw [hW] at x0 x1 xb
          clear hW
          obtain ⟨N, hN⟩ : ∃ N, N = w.heap.size := ⟨_, rfl⟩
          rw [← hN] at x0 x1 xb ⊢
          have HN : Hid (N = w.heap.size) := hN
          clear hN
          have HA := hide (And.intro x0 (And.intro x1 xb))
          clear x0 x1 xb
          have a0 := HA.out.1.c0
          have a1 := HA.out.1.c1
          have a2 := HA.out.1.c2
          have a3 := HA.out.1.c3
          have a4 := HA.out.1.c4
          have a5 := HA.out.1.c5
          have b0 := HA.out.2.1.c0
          have b1 := HA.out.2.1.c1
          have b2 := HA.out.2.1.c2
          have b3 := HA.out.2.1.c3
          have b4 := HA.out.2.1.c4
          have b5 := HA.out.2.1.c5
          go_wp2_with (first | (go_at_call 100; refine (c2 _).mono ?_; rintro e w1 ⟨rfl, hb1⟩; have HB := hide (And.intro (HA.out.1.keep hb1) (And.intro (HA.out.2.1.keep hb1) (HA.out.2.2.trans (hb1.mono (Nat.le_of_lt HA.out.1.lt))))); clear HA hb1 a0 a1 a2 a3 a4 a5 b0 b1 b2 b3 b4 b5; have HA := HB; clear HB; have a0 := HA.out.1.c0; have a1 := HA.out.1.c1; have a2 := HA.out.1.c2; have a3 := HA.out.1.c3; have a4 := HA.out.1.c4; have a5 := HA.out.1.c5; have b0 := HA.out.2.1.c0; have b1 := HA.out.2.1.c1; have b2 := HA.out.2.1.c2; have b3 := HA.out.2.1.c3; have b4 := HA.out.2.1.c4; have b5 := HA.out.2.1.c5) | (go_at_call 101; refine (c3 _).mono ?_; rintro e w1 ⟨rfl, hb1⟩; have HB := hide (And.intro (HA.out.1.keep hb1) (And.intro (HA.out.2.1.keep hb1) (HA.out.2.2.trans (hb1.mono (Nat.le_of_lt HA.out.1.lt))))); clear HA hb1 a0 a1 a2 a3 a4 a5 b0 b1 b2 b3 b4 b5; have HA := HB; clear HB; have a0 := HA.out.1.c0; have a1 := HA.out.1.c1; have a2 := HA.out.1.c2; have a3 := HA.out.1.c3; have a4 := HA.out.1.c4; have a5 := HA.out.1.c5; have b0 := HA.out.2.1.c0; have b1 := HA.out.2.1.c1; have b2 := HA.out.2.1.c2; have b3 := HA.out.2.1.c3; have b4 := HA.out.2.1.c4; have b5 := HA.out.2.1.c5))
          clear c2 c3
          go_ret
          exact ⟨by rw [HR.out]; rfl, by rw [← HN.out]; exact HA.out.2.2⟩
        · have x0 : Br ((w.alloc (.cells #[.int .i64 (up x.s), .bool x.k, .int .i64 x.n, .int .i64 x.lo, .int .i64 x.hi, .int .i64 (up x.p)] 48)).alloc (.cells #[.int .i64 (up y.s), .bool y.k, .int .i64 y.n, .int .i64 y.lo, .int .i64 y.hi, .int .i64 (up y.p)] 48)) (w.heap.size) (up x.s) x.k x.n x.lo x.hi (up x.p) := ((Br.new w (up x.s) x.k x.n x.lo x.hi (up x.p) 48)).keep ((Below.refl _ _).alloc (Nat.le_refl _) _)
          have x1 : Br ((w.alloc (.cells #[.int .i64 (up x.s), .bool x.k, .int .i64 x.n, .int .i64 x.lo, .int .i64 x.hi, .int .i64 (up x.p)] 48)).alloc (.cells #[.int .i64 (up y.s), .bool y.k, .int .i64 y.n, .int .i64 y.lo, .int .i64 y.hi, .int .i64 (up y.p)] 48)) (w.heap.size + 1) (up y.s) y.k y.n y.lo y.hi (up y.p) := (by simpa using Br.new (w.alloc (.cells #[.int .i64 (up x.s), .bool x.k, .int .i64 x.n, .int .i64 x.lo, .int .i64 x.hi, .int .i64 (up x.p)] 48)) (up y.s) y.k y.n y.lo y.hi (up y.p) 48 : Br ((w.alloc (.cells #[.int .i64 (up x.s), .bool x.k, .int .i64 x.n, .int .i64 x.lo, .int .i64 x.hi, .int .i64 (up x.p)] 48)).alloc (.cells #[.int .i64 (up y.s), .bool y.k, .int .i64 y.n, .int .i64 y.lo, .int .i64 y.hi, .int .i64 (up y.p)] 48)) (w.heap.size + 1) (up y.s) y.k y.n y.lo y.hi (up y.p))
          have xb : Below w.heap.size w ((w.alloc (.cells #[.int .i64 (up x.s), .bool x.k, .int .i64 x.n, .int .i64 x.lo, .int .i64 x.hi, .int .i64 (up x.p)] 48)).alloc (.cells #[.int .i64 (up y.s), .bool y.k, .int .i64 y.n, .int .i64 y.lo, .int .i64 y.hi, .int .i64 (up y.p)] 48)) := (by repeat (first | exact Below.refl _ _ | (refine Below.drew ?_) | (refine below_drewN ?_ _) | (refine Below.setCell ?_ (by first | omega | (simp; done) | (simp; omega)) _) | (refine Below.alloc ?_ (by first | omega | (simp; done) | (simp; omega)) _) | (refine Below.trans ?_ (Below.mono (by assumption) (by first | omega | (simp; done) | (simp; omega))))))
          go_enter Try.func52, Try.ntmps52
          go_upto_region 1 with fail
          go_name_world W hW
          rw [hW] at x0 x1 xb
          clear hW
          obtain ⟨N, hN⟩ : ∃ N, N = w.heap.size := ⟨_, rfl⟩
          rw [← hN] at x0 x1 xb ⊢
          have HN : Hid (N = w.heap.size) := hN
          clear hN
          have HA := hide (And.intro x0 (And.intro x1 xb))
          clear x0 x1 xb
          have a0 := HA.out.1.c0
          have a1 := HA.out.1.c1
          have a2 := HA.out.1.c2
          have a3 := HA.out.1.c3
          have a4 := HA.out.1.c4
          have a5 := HA.out.1.c5
          have b0 := HA.out.2.1.c0
          have b1 := HA.out.2.1.c1
          have b2 := HA.out.2.1.c2
          have b3 := HA.out.2.1.c3
          have b4 := HA.out.2.1.c4
          have b5 := HA.out.2.1.c5
          go_wp2_with (first | (go_at_call 100; refine (c2 _).mono ?_; rintro e w1 ⟨rfl, hb1⟩; have HB := hide (And.intro (HA.out.1.keep hb1) (And.intro (HA.out.2.1.keep hb1) (HA.out.2.2.trans (hb1.mono (Nat.le_of_lt HA.out.1.lt))))); clear HA hb1 a0 a1 a2 a3 a4 a5 b0 b1 b2 b3 b4 b5; have HA := HB; clear HB; have a0 := HA.out.1.c0; have a1 := HA.out.1.c1; have a2 := HA.out.1.c2; have a3 := HA.out.1.c3; have a4 := HA.out.1.c4; have a5 := HA.out.1.c5; have b0 := HA.out.2.1.c0; have b1 := HA.out.2.1.c1; have b2 := HA.out.2.1.c2; have b3 := HA.out.2.1.c3; have b4 := HA.out.2.1.c4; have b5 := HA.out.2.1.c5) | (go_at_call 101; refine (c3 _).mono ?_; rintro e w1 ⟨rfl, hb1⟩; have HB := hide (And.intro (HA.out.1.keep hb1) (And.intro (HA.out.2.1.keep hb1) (HA.out.2.2.trans (hb1.mono (Nat.le_of_lt HA.out.1.lt))))); clear HA hb1 a0 a1 a2 a3 a4 a5 b0 b1 b2 b3 b4 b5; have HA := HB; clear HB; have a0 := HA.out.1.c0; have a1 := HA.out.1.c1; have a2 := HA.out.1.c2; have a3 := HA.out.1.c3; have a4 := HA.out.1.c4; have a5 := HA.out.1.c5; have b0 := HA.out.2.1.c0; have b1 := HA.out.2.1.c1; have b2 := HA.out.2.1.c2; have b3 := HA.out.2.1.c3; have b4 := HA.out.2.1.c4; have b5 := HA.out.2.1.c5))
          clear c2 c3
          go_ret
          exact ⟨by rw [HR.out]; rfl, by rw [← HN.out]; exact HA.out.2.2⟩
end Go.Proofs.Ytmhicllhjiglkaa
namespace Go.Proofs.Ytmhicllhjiglkaa
open Go.RowKit
set_option maxRecDepth 100000 in
set_option maxHeartbeats 4000000 in
theorem bwr_any (xs ys : List Int) (a b : Option Addr) (c d : Nat) (w : World) (hr : Ri w a xs) (hs : Ri w b ys) (hl1 : xs.length ≤ 100000) (hl2 : ys.length ≤ 100000) :
    Calls Try.prog 53 #[.slice a xs.length c, .slice b ys.length d] w fun e w' => w' = w ∧ e = .returned (.bool (xs.all (fun x => hasL ys x))) := by
  have HR := hide hr
  have cS := fun x => brhas_any ys b d x w hs (by omega)
  clear hr hs
  have i1 : (xs.length : Int) ≤ 100000 := by omega
  go_enter Try.func53, Try.ntmps53
  go_wp2_with fail
  go_loop [5] (fun sk => ∃ k : Nat, sk = .int .i64 k ∧ k ≤ xs.length ∧ Hid ((xs.drop k).all (fun x => hasL ys x) = xs.all (fun x => hasL ys x))) (fun sk => xs.length - (intOf sk).toNat)
  case atStart => exact ⟨0, rfl, Nat.zero_le _, rfl⟩
  case round =>
    obtain ⟨k, rfl, hk, h4⟩ := hrel
    by_cases hkv : k < xs.length
    · have hkv2 : (k : Int) < xs.length := by omega
      obtain ⟨y, hY⟩ : ∃ y, xs[k]? = some y := ⟨_, List.getElem?_eq_getElem hkv⟩
      obtain ⟨b2, o2, rfl, f5⟩ := HR.out k y hY
      have cY := cS y
      have HD : Hid (xs.all (fun x => hasL ys x) = (hasL ys y && (xs.drop (k + 1)).all (fun x => hasL ys x))) := hide (by
        rw [← h4.out, List.drop_eq_getElem_cons hkv, List.all_cons]
        obtain ⟨_, e1⟩ := List.getElem?_eq_some_iff.1 hY
        rw [e1])
      clear hY h4 cS
      generalize hasL ys y = bv at *
      cases bv with
      | false =>
        go_wp2_with (go_at_call 102; refine cY.mono ?_; rintro e w' ⟨hw, rfl⟩; obtain rfl := hw.symm; clear cY)
        go_ret
        exact ⟨rfl, by rw [HD.out]; rfl⟩
      | true =>
        have HE : Hid (xs.all (fun x => hasL ys x) = (xs.drop (k + 1)).all (fun x => hasL ys x)) := hide (by rw [HD.out, Bool.true_and])
        clear HD
        go_wp2_with (go_at_call 102; refine cY.mono ?_; rintro e w' ⟨hw, rfl⟩; obtain rfl := hw.symm; clear cY)
        exact ⟨⟨k + 1, by simp, by omega, HE.out.symm⟩, by simp [intOf]; omega⟩
    · have hke : k = xs.length := by omega
      subst hke
      have HE : Hid (xs.all (fun x => hasL ys x) = true) := hide (by rw [← h4.out, List.drop_of_length_le (Nat.le_refl _)]; rfl)
      clear cS
      go_wp2
      go_ret
      exact ⟨rfl, by rw [HE.out]; rfl⟩
end Go.Proofs.Ytmhicllhjiglkaa
