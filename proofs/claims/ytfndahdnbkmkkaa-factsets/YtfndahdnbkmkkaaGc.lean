import Derived.Test.YtfndahdnbkmkkaaFf2
namespace Go.Proofs.Ytfndahdnbkmkkaa
open Go.RowKit
theorem within_or (x y : BitVec 3) : (up (x ||| y) == up y) = withinS x y := by
  rw [up_beq]
  revert x y
  decide
set_option maxRecDepth 100000 in
set_option maxHeartbeats 16000000 in
theorem withinr_V (x y : V) (w : World) : Calls Try.prog 23 #[.agg #[.int .i64 (up x.s), .bool x.k, .int .i64 x.n, .int .i64 x.lo, .int .i64 x.hi, .int .i64 (up x.p)], .agg #[.int .i64 (up y.s), .bool y.k, .int .i64 y.n, .int .i64 y.lo, .int .i64 y.hi, .int .i64 (up y.p)]] w fun e w' => e = .returned (.bool (withinV x y)) ∧ Below w.heap.size w w' := by
  have e1 := or_up x.s y.s
  have e2 := or_up x.p y.p
  have h1 := within_or x.s y.s
  have h2 := within_or x.p y.p
  have c2 := fun w => kwithinr_any x.k x.n y.k y.n w
  have c3 := fun w => bel2 (nwithinr_any x.lo x.hi y.lo y.hi w)
  have HR : Hid (withinV x y = (withinS x.s y.s && (withinK x.k x.n y.k y.n && (withinR x.lo x.hi y.lo y.hi && withinS x.p y.p)))) := rfl
  generalize withinV x y = r at *
  generalize withinS x.s y.s = t1 at *
  generalize withinK x.k x.n y.k y.n = t2 at *
  generalize withinR x.lo x.hi y.lo y.hi = t3 at *
  generalize withinS x.p y.p = t4 at *
  cases t1
  · have x0 : Br ((w.alloc (.cells #[.int .i64 (up x.s), .bool x.k, .int .i64 x.n, .int .i64 x.lo, .int .i64 x.hi, .int .i64 (up x.p)] 27)).alloc (.cells #[.int .i64 (up y.s), .bool y.k, .int .i64 y.n, .int .i64 y.lo, .int .i64 y.hi, .int .i64 (up y.p)] 27)) (w.heap.size) (up x.s) x.k x.n x.lo x.hi (up x.p) := ((Br.new w (up x.s) x.k x.n x.lo x.hi (up x.p) 27)).keep ((Below.refl _ _).alloc (Nat.le_refl _) _)
    have x1 : Br ((w.alloc (.cells #[.int .i64 (up x.s), .bool x.k, .int .i64 x.n, .int .i64 x.lo, .int .i64 x.hi, .int .i64 (up x.p)] 27)).alloc (.cells #[.int .i64 (up y.s), .bool y.k, .int .i64 y.n, .int .i64 y.lo, .int .i64 y.hi, .int .i64 (up y.p)] 27)) (w.heap.size + 1) (up y.s) y.k y.n y.lo y.hi (up y.p) := (by simpa using Br.new (w.alloc (.cells #[.int .i64 (up x.s), .bool x.k, .int .i64 x.n, .int .i64 x.lo, .int .i64 x.hi, .int .i64 (up x.p)] 27)) (up y.s) y.k y.n y.lo y.hi (up y.p) 27 : Br ((w.alloc (.cells #[.int .i64 (up x.s), .bool x.k, .int .i64 x.n, .int .i64 x.lo, .int .i64 x.hi, .int .i64 (up x.p)] 27)).alloc (.cells #[.int .i64 (up y.s), .bool y.k, .int .i64 y.n, .int .i64 y.lo, .int .i64 y.hi, .int .i64 (up y.p)] 27)) (w.heap.size + 1) (up y.s) y.k y.n y.lo y.hi (up y.p))
    have xb : Below w.heap.size w ((w.alloc (.cells #[.int .i64 (up x.s), .bool x.k, .int .i64 x.n, .int .i64 x.lo, .int .i64 x.hi, .int .i64 (up x.p)] 27)).alloc (.cells #[.int .i64 (up y.s), .bool y.k, .int .i64 y.n, .int .i64 y.lo, .int .i64 y.hi, .int .i64 (up y.p)] 27)) := (by repeat (first | exact Below.refl _ _ | (refine Below.drew ?_) | (refine below_drewN ?_ _) | (refine Below.setCell ?_ (by first | omega | (simp; done) | (simp; omega)) _) | (refine Below.alloc ?_ (by first | omega | (simp; done) | (simp; omega)) _) | (refine Below.trans ?_ (Below.mono (by assumption) (by first | omega | (simp; done) | (simp; omega))))))
    go_enter Try.func23, Try.ntmps23
    go_upto_region 1 with fail
    go_name_world W hW
    rw [hW] at x0 x1 xb
    clear hW
    obtain ⟨N, hN⟩ : ∃ N, N = w.heap.size := ⟨_, rfl⟩
    rw [← hN] at x0 x1 xb ⊢
    have HN : Hid (N = w.heap.size) := hN
    clear hN
    have HA := hide (And.intro x0 (And.intro x1 xb))
    clear x0 x1 xb
    have a0 := HA.out.1.c0
    have a1 := HA.out.1.c1
    have a2 := HA.out.1.c2
    have a3 := HA.out.1.c3
    have a4 := HA.out.1.c4
    have a5 := HA.out.1.c5
    have b0 := HA.out.2.1.c0
    have b1 := HA.out.2.1.c1
    have b2 := HA.out.2.1.c2
    have b3 := HA.out.2.1.c3
    have b4 := HA.out.2.1.c4
    have b5 := HA.out.2.1.c5
    go_wp2_with (first | (go_at_call 71; refine (c2 _).mono ?_; rintro e w1 ⟨rfl, hb1⟩; have HB := hide (And.intro (HA.out.1.keep hb1) (And.intro (HA.out.2.1.keep hb1) (HA.out.2.2.trans (hb1.mono (Nat.le_of_lt HA.out.1.lt))))); clear HA hb1 a0 a1 a2 a3 a4 a5 b0 b1 b2 b3 b4 b5; have HA := HB; clear HB; have a0 := HA.out.1.c0; have a1 := HA.out.1.c1; have a2 := HA.out.1.c2; have a3 := HA.out.1.c3; have a4 := HA.out.1.c4; have a5 := HA.out.1.c5; have b0 := HA.out.2.1.c0; have b1 := HA.out.2.1.c1; have b2 := HA.out.2.1.c2; have b3 := HA.out.2.1.c3; have b4 := HA.out.2.1.c4; have b5 := HA.out.2.1.c5) | (go_at_call 72; refine (c3 _).mono ?_; rintro e w1 ⟨rfl, hb1⟩; have HB := hide (And.intro (HA.out.1.keep hb1) (And.intro (HA.out.2.1.keep hb1) (HA.out.2.2.trans (hb1.mono (Nat.le_of_lt HA.out.1.lt))))); clear HA hb1 a0 a1 a2 a3 a4 a5 b0 b1 b2 b3 b4 b5; have HA := HB; clear HB; have a0 := HA.out.1.c0; have a1 := HA.out.1.c1; have a2 := HA.out.1.c2; have a3 := HA.out.1.c3; have a4 := HA.out.1.c4; have a5 := HA.out.1.c5; have b0 := HA.out.2.1.c0; have b1 := HA.out.2.1.c1; have b2 := HA.out.2.1.c2; have b3 := HA.out.2.1.c3; have b4 := HA.out.2.1.c4; have b5 := HA.out.2.1.c5))
    clear c2 c3
    go_ret
    exact ⟨by rw [HR.out]; rfl, by rw [← HN.out]; exact HA.out.2.2⟩
  · cases t2
    · have x0 : Br ((w.alloc (.cells #[.int .i64 (up x.s), .bool x.k, .int .i64 x.n, .int .i64 x.lo, .int .i64 x.hi, .int .i64 (up x.p)] 27)).alloc (.cells #[.int .i64 (up y.s), .bool y.k, .int .i64 y.n, .int .i64 y.lo, .int .i64 y.hi, .int .i64 (up y.p)] 27)) (w.heap.size) (up x.s) x.k x.n x.lo x.hi (up x.p) := ((Br.new w (up x.s) x.k x.n x.lo x.hi (up x.p) 27)).keep ((Below.refl _ _).alloc (Nat.le_refl _) _)
      have x1 : Br ((w.alloc (.cells #[.int .i64 (up x.s), .bool x.k, .int .i64 x.n, .int .i64 x.lo, .int .i64 x.hi, .int .i64 (up x.p)] 27)).alloc (.cells #[.int .i64 (up y.s), .bool y.k, .int .i64 y.n, .int .i64 y.lo, .int .i64 y.hi, .int .i64 (up y.p)] 27)) (w.heap.size + 1) (up y.s) y.k y.n y.lo y.hi (up y.p) := (by simpa using Br.new (w.alloc (.cells #[.int .i64 (up x.s), .bool x.k, .int .i64 x.n, .int .i64 x.lo, .int .i64 x.hi, .int .i64 (up x.p)] 27)) (up y.s) y.k y.n y.lo y.hi (up y.p) 27 : Br ((w.alloc (.cells #[.int .i64 (up x.s), .bool x.k, .int .i64 x.n, .int .i64 x.lo, .int .i64 x.hi, .int .i64 (up x.p)] 27)).alloc (.cells #[.int .i64 (up y.s), .bool y.k, .int .i64 y.n, .int .i64 y.lo, .int .i64 y.hi, .int .i64 (up y.p)] 27)) (w.heap.size + 1) (up y.s) y.k y.n y.lo y.hi (up y.p))
      have xb : Below w.heap.size w ((w.alloc (.cells #[.int .i64 (up x.s), .bool x.k, .int .i64 x.n, .int .i64 x.lo, .int .i64 x.hi, .int .i64 (up x.p)] 27)).alloc (.cells #[.int .i64 (up y.s), .bool y.k, .int .i64 y.n, .int .i64 y.lo, .int .i64 y.hi, .int .i64 (up y.p)] 27)) := (by repeat (first | exact Below.refl _ _ | (refine Below.drew ?_) | (refine below_drewN ?_ _) | (refine Below.setCell ?_ (by first | omega | (simp; done) | (simp; omega)) _) | (refine Below.alloc ?_ (by first | omega | (simp; done) | (simp; omega)) _) | (refine Below.trans ?_ (Below.mono (by assumption) (by first | omega | (simp; done) | (simp; omega))))))
      go_enter Try.func23, Try.ntmps23
      go_upto_region 1 with fail
      go_name_world W hW
      rw [hW] at x0 x1 xb
      clear hW
      obtain ⟨N, hN⟩ : ∃ N, N = w.heap.size := ⟨_, rfl⟩
      rw [← hN] at x0 x1 xb ⊢
      have HN : Hid (N = w.heap.size) := hN
      clear hN
      have HA := hide (And.intro x0 (And.intro x1 xb))
      clear x0 x1 xb
      have a0 := HA.out.1.c0
      have a1 := HA.out.1.c1
      have a2 := HA.out.1.c2
      have a3 := HA.out.1.c3
      have a4 := HA.out.1.c4
      have a5 := HA.out.1.c5
      have b0 := HA.out.2.1.c0
      have b1 := HA.out.2.1.c1
      have b2 := HA.out.2.1.c2
      have b3 := HA.out.2.1.c3
      have b4 := HA.out.2.1.c4
      have b5 := HA.out.2.1.c5
      go_wp2_with (first | (go_at_call 71; refine (c2 _).mono ?_; rintro e w1 ⟨rfl, hb1⟩; have HB := hide (And.intro (HA.out.1.keep hb1) (And.intro (HA.out.2.1.keep hb1) (HA.out.2.2.trans (hb1.mono (Nat.le_of_lt HA.out.1.lt))))); clear HA hb1 a0 a1 a2 a3 a4 a5 b0 b1 b2 b3 b4 b5; have HA := HB; clear HB; have a0 := HA.out.1.c0; have a1 := HA.out.1.c1; have a2 := HA.out.1.c2; have a3 := HA.out.1.c3; have a4 := HA.out.1.c4; have a5 := HA.out.1.c5; have b0 := HA.out.2.1.c0; have b1 := HA.out.2.1.c1; have b2 := HA.out.2.1.c2; have b3 := HA.out.2.1.c3; have b4 := HA.out.2.1.c4; have b5 := HA.out.2.1.c5) | (go_at_call 72; refine (c3 _).mono ?_; rintro e w1 ⟨rfl, hb1⟩; have HB := hide (And.intro (HA.out.1.keep hb1) (And.intro (HA.out.2.1.keep hb1) (HA.out.2.2.trans (hb1.mono (Nat.le_of_lt HA.out.1.lt))))); clear HA hb1 a0 a1 a2 a3 a4 a5 b0 b1 b2 b3 b4 b5; have HA := HB; clear HB; have a0 := HA.out.1.c0; have a1 := HA.out.1.c1; have a2 := HA.out.1.c2; have a3 := HA.out.1.c3; have a4 := HA.out.1.c4; have a5 := HA.out.1.c5; have b0 := HA.out.2.1.c0; have b1 := HA.out.2.1.c1; have b2 := HA.out.2.1.c2; have b3 := HA.out.2.1.c3; have b4 := HA.out.2.1.c4; have b5 := HA.out.2.1.c5))
      clear c2 c3
      go_ret
      exact ⟨by rw [HR.out]; rfl, by rw [← HN.out]; exact HA.out.2.2⟩
    · cases t3
      · have x0 : Br ((w.alloc (.cells #[.int .i64 (up x.s), .bool x.k, .int .i64 x.n, .int .i64 x.lo, .int .i64 x.hi, .int .i64 (up x.p)] 27)).alloc (.cells #[.int .i64 (up y.s), .bool y.k, .int .i64 y.n, .int .i64 y.lo, .int .i64 y.hi, .int .i64 (up y.p)] 27)) (w.heap.size) (up x.s) x.k x.n x.lo x.hi (up x.p) := ((Br.new w (up x.s) x.k x.n x.lo x.hi (up x.p) 27)).keep ((Below.refl _ _).alloc (Nat.le_refl _) _)
        have x1 : Br ((w.alloc (.cells #[.int .i64 (up x.s), .bool x.k, .int .i64 x.n, .int .i64 x.lo, .int .i64 x.hi, .int .i64 (up x.p)] 27)).alloc (.cells #[.int .i64 (up y.s), .bool y.k, .int .i64 y.n, .int .i64 y.lo, .int .i64 y.hi, .int .i64 (up y.p)] 27)) (w.heap.size + 1) (up y.s) y.k y.n y.lo y.hi (up y.p) := (by simpa using Br.new (w.alloc (.cells #[.int .i64 (up x.s), .bool x.k, .int .i64 x.n, .int .i64 x.lo, .int .i64 x.hi, .int .i64 (up x.p)] 27)) (up y.s) y.k y.n y.lo y.hi (up y.p) 27 : Br ((w.alloc (.cells #[.int .i64 (up x.s), .bool x.k, .int .i64 x.n, .int .i64 x.lo, .int .i64 x.hi, .int .i64 (up x.p)] 27)).alloc (.cells #[.int .i64 (up y.s), .bool y.k, .int .i64 y.n, .int .i64 y.lo, .int .i64 y.hi, .int .i64 (up y.p)] 27)) (w.heap.size + 1) (up y.s) y.k y.n y.lo y.hi (up y.p))
        have xb : Below w.heap.size w ((w.alloc (.cells #[.int .i64 (up x.s), .bool x.k, .int .i64 x.n, .int .i64 x.lo, .int .i64 x.hi, .int .i64 (up x.p)] 27)).alloc (.cells #[.int .i64 (up y.s), .bool y.k, .int .i64 y.n, .int .i64 y.lo, .int .i64 y.hi, .int .i64 (up y.p)] 27)) := (by repeat (first | exact Below.refl _ _ | (refine Below.drew ?_) | (refine below_drewN ?_ _) | (refine Below.setCell ?_ (by first | omega | (simp; done) | (simp; omega)) _) | (refine Below.alloc ?_ (by first | omega | (simp; done) | (simp; omega)) _) | (refine Below.trans ?_ (Below.mono (by assumption) (by first | omega | (simp; done) | (simp; omega))))))
        go_enter Try.func23, Try.ntmps23
        go_upto_region 1 with fail
        go_name_world W hW
        rw [hW] at x0 x1 xb
        clear hW
        obtain ⟨N, hN⟩ : ∃ N, N = w.heap.size := ⟨_, rfl⟩
        rw [← hN] at x0 x1 xb ⊢
        have HN : Hid (N = w.heap.size) := hN
        clear hN
        have HA := hide (And.intro x0 (And.intro x1 xb))
        clear x0 x1 xb
        have a0 := HA.out.1.c0
        have a1 := HA.out.1.c1
        have a2 := HA.out.1.c2
        have a3 := HA.out.1.c3
        have a4 := HA.out.1.c4
        have a5 := HA.out.1.c5
        have b0 := HA.out.2.1.c0
        have b1 := HA.out.2.1.c1
        have b2 := HA.out.2.1.c2
        have b3 := HA.out.2.1.c3
        have b4 := HA.out.2.1.c4
        have b5 := HA.out.2.1.c5
        go_wp2_with (first | (go_at_call 71; refine (c2 _).mono ?_; rintro e w1 ⟨rfl, hb1⟩; have HB := hide (And.intro (HA.out.1.keep hb1) (And.intro (HA.out.2.1.keep hb1) (HA.out.2.2.trans (hb1.mono (Nat.le_of_lt HA.out.1.lt))))); clear HA hb1 a0 a1 a2 a3 a4 a5 b0 b1 b2 b3 b4 b5; have HA := HB; clear HB; have a0 := HA.out.1.c0; have a1 := HA.out.1.c1; have a2 := HA.out.1.c2; have a3 := HA.out.1.c3; have a4 := HA.out.1.c4; have a5 := HA.out.1.c5; have b0 := HA.out.2.1.c0; have b1 := HA.out.2.1.c1; have b2 := HA.out.2.1.c2; have b3 := HA.out.2.1.c3; have b4 := HA.out.2.1.c4; have b5 := HA.out.2.1.c5) | (go_at_call 72; refine (c3 _).mono ?_; rintro e w1 ⟨rfl, hb1⟩; have HB := hide (And.intro (HA.out.1.keep hb1) (And.intro (HA.out.2.1.keep hb1) (HA.out.2.2.trans (hb1.mono (Nat.le_of_lt HA.out.1.lt))))); clear HA hb1 a0 a1 a2 a3 a4 a5 b0 b1 b2 b3 b4 b5; have HA := HB; clear HB; have a0 := HA.out.1.c0; have a1 := HA.out.1.c1; have a2 := HA.out.1.c2; have a3 := HA.out.1.c3; have a4 := HA.out.1.c4; have a5 := HA.out.1.c5; have b0 := HA.out.2.1.c0; have b1 := HA.out.2.1.c1; have b2 := HA.out.2.1.c2; have b3 := HA.out.2.1.c3; have b4 := HA.out.2.1.c4; have b5 := HA.out.2.1.c5))
        clear c2 c3
        go_ret
        exact ⟨by rw [HR.out]; rfl, by rw [← HN.out]; exact HA.out.2.2⟩
      · cases t4
        · have x0 : Br ((w.alloc (.cells #[.int .i64 (up x.s), .bool x.k, .int .i64 x.n, .int .i64 x.lo, .int .i64 x.hi, .int .i64 (up x.p)] 27)).alloc (.cells #[.int .i64 (up y.s), .bool y.k, .int .i64 y.n, .int .i64 y.lo, .int .i64 y.hi, .int .i64 (up y.p)] 27)) (w.heap.size) (up x.s) x.k x.n x.lo x.hi (up x.p) := ((Br.new w (up x.s) x.k x.n x.lo x.hi (up x.p) 27)).keep ((Below.refl _ _).alloc (Nat.le_refl _) _)
          have x1 : Br ((w.alloc (.cells #[.int .i64 (up x.s), .bool x.k, .int .i64 x.n, .int .i64 x.lo, .int .i64 x.hi, .int .i64 (up x.p)] 27)).alloc (.cells #[.int .i64 (up y.s), .bool y.k, .int .i64 y.n, .int .i64 y.lo, .int .i64 y.hi, .int .i64 (up y.p)] 27)) (w.heap.size + 1) (up y.s) y.k y.n y.lo y.hi (up y.p) := (by simpa using Br.new (w.alloc (.cells #[.int .i64 (up x.s), .bool x.k, .int .i64 x.n, .int .i64 x.lo, .int .i64 x.hi, .int .i64 (up x.p)] 27)) (up y.s) y.k y.n y.lo y.hi (up y.p) 27 : Br ((w.alloc (.cells #[.int .i64 (up x.s), .bool x.k, .int .i64 x.n, .int .i64 x.lo, .int .i64 x.hi, .int .i64 (up x.p)] 27)).alloc (.cells #[.int .i64 (up y.s), .bool y.k, .int .i64 y.n, .int .i64 y.lo, .int .i64 y.hi, .int .i64 (up y.p)] 27)) (w.heap.size + 1) (up y.s) y.k y.n y.lo y.hi (up y.p))
          have xb : Below w.heap.size w ((w.alloc (.cells #[.int .i64 (up x.s), .bool x.k, .int .i64 x.n, .int .i64 x.lo, .int .i64 x.hi, .int .i64 (up x.p)] 27)).alloc (.cells #[.int .i64 (up y.s), .bool y.k, .int .i64 y.n, .int .i64 y.lo, .int .i64 y.hi, .int .i64 (up y.p)] 27)) := (by repeat (first | exact Below.refl _ _ | (refine Below.drew ?_) | (refine below_drewN ?_ _) | (refine Below.setCell ?_ (by first | omega | (simp; done) | (simp; omega)) _) | (refine Below.alloc ?_ (by first | omega | (simp; done) | (simp; omega)) _) | (refine Below.trans ?_ (Below.mono (by assumption) (by first | omega | (simp; done) | (simp; omega))))))
          go_enter Try.func23, Try.ntmps23
          go_upto_region 1 with fail
          go_name_world W hW
          rw [hW] at x0 x1 xb
          clear hW
          obtain ⟨N, hN⟩ : ∃ N, N = w.heap.size := ⟨_, rfl⟩
          rw [← hN] at x0 x1 xb ⊢
          have HN : Hid (N = w.heap.size) := hN
          clear hN
          have HA := hide (And.intro x0 (And.intro x1 xb))
          clear x0 x1 xb
          have a0 := HA.out.1.c0
          have a1 := HA.out.1.c1
          have a2 := HA.out.1.c2
          have a3 := HA.out.1.c3
          have a4 := HA.out.1.c4
          have a5 := HA.out.1.c5
          have b0 := HA.out.2.1.c0
          have b1 := HA.out.2.1.c1
          have b2 := HA.out.2.1.c2
          have b3 := HA.out.2.1.c3
          have b4 := HA.out.2.1.c4
          have b5 := HA.out.2.1.c5
          go_wp2_with (first | (go_at_call 71; refine (c2 _).mono ?_; rintro e w1 ⟨rfl, hb1⟩; have HB := hide (And.intro (HA.out.1.keep hb1) (And.intro (HA.out.2.1.keep hb1) (HA.out.2.2.trans (hb1.mono (Nat.le_of_lt HA.out.1.lt))))); clear HA hb1 a0 a1 a2 a3 a4 a5 b0 b1 b2 b3 b4 b5; have HA := HB; clear HB; have a0 := HA.out.1.c0; have a1 := HA.out.1.c1; have a2 := HA.out.1.c2; have a3 := HA.out.1.c3; have a4 := HA.out.1.c4; have a5 := HA.out.1.c5; have b0 := HA.out.2.1.c0; have b1 := HA.out.2.1.c1; have b2 := HA.out.2.1.c2; have b3 := HA.out.2.1.c3; have b4 := HA.out.2.1.c4; have b5 := HA.out.2.1.c5) | (go_at_call 72; refine (c3 _).mono ?_; rintro e w1 ⟨rfl, hb1⟩; have HB := hide (And.intro (HA.out.1.keep hb1) (And.intro (HA.out.2.1.keep hb1) (HA.out.2.2.trans (hb1.mono (Nat.le_of_lt HA.out.1.lt))))); clear HA hb1 a0 a1 a2 a3 a4 a5 b0 b1 b2 b3 b4 b5; have HA := HB; clear HB; have a0 := HA.out.1.c0; have a1 := HA.out.1.c1; have a2 := HA.out.1.c2; have a3 := HA.out.1.c3; have a4 := HA.out.1.c4; have a5 := HA.out.1.c5; have b0 := HA.out.2.1.c0; have b1 := HA.out.2.1.c1; have b2 := HA.out.2.1.c2; have b3 := HA.out.2.1.c3; have b4 := HA.out.2.1.c4; have b5 := HA.out.2.1.c5))
          clear c2 c3
          go_ret
          exact ⟨by rw [HR.out]; rfl, by rw [← HN.out]; exact HA.out.2.2⟩
        · have x0 : Br ((w.alloc (.cells #[.int .i64 (up x.s), .bool x.k, .int .i64 x.n, .int .i64 x.lo, .int .i64 x.hi, .int .i64 (up x.p)] 27)).alloc (.cells #[.int .i64 (up y.s), .bool y.k, .int .i64 y.n, .int .i64 y.lo, .int .i64 y.hi, .int .i64 (up y.p)] 27)) (w.heap.size) (up x.s) x.k x.n x.lo x.hi (up x.p) := ((Br.new w (up x.s) x.k x.n x.lo x.hi (up x.p) 27)).keep ((Below.refl _ _).alloc (Nat.le_refl _) _)
          have x1 : Br ((w.alloc (.cells #[.int .i64 (up x.s), .bool x.k, .int .i64 x.n, .int .i64 x.lo, .int .i64 x.hi, .int .i64 (up x.p)] 27)).alloc (.cells #[.int .i64 (up y.s), .bool y.k, .int .i64 y.n, .int .i64 y.lo, .int .i64 y.hi, .int .i64 (up y.p)] 27)) (w.heap.size + 1) (up y.s) y.k y.n y.lo y.hi (up y.p) := (by simpa using Br.new (w.alloc (.cells #[.int .i64 (up x.s), .bool x.k, .int .i64 x.n, .int .i64 x.lo, .int .i64 x.hi, .int .i64 (up x.p)] 27)) (up y.s) y.k y.n y.lo y.hi (up y.p) 27 : Br ((w.alloc (.cells #[.int .i64 (up x.s), .bool x.k, .int .i64 x.n, .int .i64 x.lo, .int .i64 x.hi, .int .i64 (up x.p)] 27)).alloc (.cells #[.int .i64 (up y.s), .bool y.k, .int .i64 y.n, .int .i64 y.lo, .int .i64 y.hi, .int .i64 (up y.p)] 27)) (w.heap.size + 1) (up y.s) y.k y.n y.lo y.hi (up y.p))
          have xb : Below w.heap.size w ((w.alloc (.cells #[.int .i64 (up x.s), .bool x.k, .int .i64 x.n, .int .i64 x.lo, .int .i64 x.hi, .int .i64 (up x.p)] 27)).alloc (.cells #[.int .i64 (up y.s), .bool y.k, .int .i64 y.n, .int .i64 y.lo, .int .i64 y.hi, .int .i64 (up y.p)] 27)) := (by repeat (first | exact Below.refl _ _ | (refine Below.drew ?_) | (refine below_drewN ?_ _) | (refine Below.setCell ?_ (by first | omega | (simp; done) | (simp; omega)) _) | (refine Below.alloc ?_ (by first | omega | (simp; done) | (simp; omega)) _) | (refine Below.trans ?_ (Below.mono (by assumption) (by first | omega | (simp; done) | (simp; omega))))))
          go_enter Try.func23, Try.ntmps23
          go_upto_region 1 with fail
          go_name_world W hW
          rw [hW] at x0 x1 xb
          clear hW
          obtain ⟨N, hN⟩ : ∃ N, N = w.heap.size := ⟨_, rfl⟩
          rw [← hN] at x0 x1 xb ⊢
          have HN : Hid (N = w.heap.size) := hN
          clear hN
          have HA := hide (And.intro x0 (And.intro x1 xb))
          clear x0 x1 xb
          have a0 := HA.out.1.c0
          have a1 := HA.out.1.c1
          have a2 := HA.out.1.c2
          have a3 := HA.out.1.c3
          have a4 := HA.out.1.c4
          have a5 := HA.out.1.c5
          have b0 := HA.out.2.1.c0
          have b1 := HA.out.2.1.c1
          have b2 := HA.out.2.1.c2
          have b3 := HA.out.2.1.c3
          have b4 := HA.out.2.1.c4
          have b5 := HA.out.2.1.c5
          go_wp2_with (first | (go_at_call 71; refine (c2 _).mono ?_; rintro e w1 ⟨rfl, hb1⟩; have HB := hide (And.intro (HA.out.1.keep hb1) (And.intro (HA.out.2.1.keep hb1) (HA.out.2.2.trans (hb1.mono (Nat.le_of_lt HA.out.1.lt))))); clear HA hb1 a0 a1 a2 a3 a4 a5 b0 b1 b2 b3 b4 b5; have HA := HB; clear HB; have a0 := HA.out.1.c0; have a1 := HA.out.1.c1; have a2 := HA.out.1.c2; have a3 := HA.out.1.c3; have a4 := HA.out.1.c4; have a5 := HA.out.1.c5; have b0 := HA.out.2.1.c0; have b1 := HA.out.2.1.c1; have b2 := HA.out.2.1.c2; have b3 := HA.out.2.1.c3; have b4 := HA.out.2.1.c4; have b5 := HA.out.2.1.c5) | (go_at_call 72; refine (c3 _).mono ?_; rintro e w1 ⟨rfl, hb1⟩; have HB := hide (And.intro (HA.out.1.keep hb1) (And.intro (HA.out.2.1.keep hb1) (HA.out.2.2.trans (hb1.mono (Nat.le_of_lt HA.out.1.lt))))); clear HA hb1 a0 a1 a2 a3 a4 a5 b0 b1 b2 b3 b4 b5; have HA := HB; clear HB; have a0 := HA.out.1.c0; have a1 := HA.out.1.c1; have a2 := HA.out.1.c2; have a3 := HA.out.1.c3; have a4 := HA.out.1.c4; have a5 := HA.out.1.c5; have b0 := HA.out.2.1.c0; have b1 := HA.out.2.1.c1; have b2 := HA.out.2.1.c2; have b3 := HA.out.2.1.c3; have b4 := HA.out.2.1.c4; have b5 := HA.out.2.1.c5))
          clear c2 c3
          go_ret
          exact ⟨by rw [HR.out]; rfl, by rw [← HN.out]; exact HA.out.2.2⟩
end Go.Proofs.Ytfndahdnbkmkkaa
