import Derived.Test.YtmhicllhjiglkaaG06
import Derived.Test.YtmhicllhjiglkaaG17
import Derived.Test.YtmhicllhjiglkaaG01
namespace Go.Proofs.Ytmhicllhjiglkaa
open Go.RowKit
set_option maxRecDepth 100000 in
set_option maxHeartbeats 16000000 in
theorem within_V (x y : V) (w : World) (hx : x.p &&& 3 = x.p) (hy : y.p &&& 3 = y.p) : Calls Try.prog 48 #[.agg #[.int .i64 (up x.s), .bool x.k, .int .i64 x.n, .int .i64 x.lo, .int .i64 x.hi, .int .i64 (up x.p)], .agg #[.int .i64 (up y.s), .bool y.k, .int .i64 y.n, .int .i64 y.lo, .int .i64 y.hi, .int .i64 (up y.p)]] w fun e w' => e = .returned (.bool (withinV x y)) ∧ Below w.heap.size w w' := by
  have c1 := fun w => swithinB x.s y.s w
  have c2 := fun w => kwithin_any x.k x.n y.k y.n w
  have c3 := fun w => bel2 (nwithin_any x.lo x.hi y.lo y.hi w)
  have c4 := fun w => pwithinB x.p y.p w hx hy
  have HR : Hid (withinV x y = (withinS x.s y.s && (withinK x.k x.n y.k y.n && (withinR x.lo x.hi y.lo y.hi && withinS x.p y.p)))) := rfl
  generalize withinV x y = r at *
  generalize withinS x.s y.s = t1 at *
  generalize withinK x.k x.n y.k y.n = t2 at *
  generalize withinR x.lo x.hi y.lo y.hi = t3 at *
  generalize withinS x.p y.p = t4 at *
  clear hx hy
  cases t1
  · have x0 : Br ((w.alloc (.cells #[.int .i64 (up x.s), .bool x.k, .int .i64 x.n, .int .i64 x.lo, .int .i64 x.hi, .int .i64 (up x.p)] 53)).alloc (.cells #[.int .i64 (up y.s), .bool y.k, .int .i64 y.n, .int .i64 y.lo, .int .i64 y.hi, .int .i64 (up y.p)] 53)) (w.heap.size) (up x.s) x.k x.n x.lo x.hi (up x.p) := ((Br.new w (up x.s) x.k x.n x.lo x.hi (up x.p) 53)).keep ((Below.refl _ _).alloc (Nat.le_refl _) _)
    have x1 : Br ((w.alloc (.cells #[.int .i64 (up x.s), .bool x.k, .int .i64 x.n, .int .i64 x.lo, .int .i64 x.hi, .int .i64 (up x.p)] 53)).alloc (.cells #[.int .i64 (up y.s), .bool y.k, .int .i64 y.n, .int .i64 y.lo, .int .i64 y.hi, .int .i64 (up y.p)] 53)) (w.heap.size + 1) (up y.s) y.k y.n y.lo y.hi (up y.p) := (by simpa using Br.new (w.alloc (.cells #[.int .i64 (up x.s), .bool x.k, .int .i64 x.n, .int .i64 x.lo, .int .i64 x.hi, .int .i64 (up x.p)] 53)) (up y.s) y.k y.n y.lo y.hi (up y.p) 53 : Br ((w.alloc (.cells #[.int .i64 (up x.s), .bool x.k, .int .i64 x.n, .int .i64 x.lo, .int .i64 x.hi, .int .i64 (up x.p)] 53)).alloc (.cells #[.int .i64 (up y.s), .bool y.k, .int .i64 y.n, .int .i64 y.lo, .int .i64 y.hi, .int .i64 (up y.p)] 53)) (w.heap.size + 1) (up y.s) y.k y.n y.lo y.hi (up y.p))
    have xb : Below w.heap.size w ((w.alloc (.cells #[.int .i64 (up x.s), .bool x.k, .int .i64 x.n, .int .i64 x.lo, .int .i64 x.hi, .int .i64 (up x.p)] 53)).alloc (.cells #[.int .i64 (up y.s), .bool y.k, .int .i64 y.n, .int .i64 y.lo, .int .i64 y.hi, .int .i64 (up y.p)] 53)) := (by repeat (first | exact Below.refl _ _ | (refine Below.drew ?_) | (refine below_drewN ?_ _) | (refine Below.setCell ?_ (by first | omega | (simp; done) | (simp; omega)) _) | (refine Below.alloc ?_ (by first | omega | (simp; done) | (simp; omega)) _) | (refine Below.trans ?_ (Below.mono (by assumption) (by first | omega | (simp; done) | (simp; omega))))))
    go_enter Try.func48, Try.ntmps48
    go_upto_region 1 with fail
    go_name_world W hW
    rw [hW] at x0 x1 xb
    clear hW
    obtain ⟨N, hN⟩ : ∃ N, N = w.heap.size := ⟨_, rfl⟩
    rw [← hN] at x0 x1 xb ⊢
    have HN : Hid (N = w.heap.size) := hN
    clear hN
    have HA := hide (And.intro x0 (And.intro x1 xb))
    clear x0 x1 xb
    have a0 := HA.out.1.c0
    have a1 := HA.out.1.c1
    have a2 := HA.out.1.c2
    have a3 := HA.out.1.c3
    have a4 := HA.out.1.c4
    have a5 := HA.out.1.c5
    have b0 := HA.out.2.1.c0
    have b1 := HA.out.2.1.c1
    have b2 := HA.out.2.1.c2
    have b3 := HA.out.2.1.c3
    have b4 := HA.out.2.1.c4
    have b5 := HA.out.2.1.c5
    go_wp2_with (first | (go_at_call 95; refine (c1 _).mono ?_; rintro e w1 ⟨rfl, hb1⟩; have HB := hide (And.intro (HA.out.1.keep hb1) (And.intro (HA.out.2.1.keep hb1) (HA.out.2.2.trans (hb1.mono (Nat.le_of_lt HA.out.1.lt))))); clear HA hb1 a0 a1 a2 a3 a4 a5 b0 b1 b2 b3 b4 b5; have HA := HB; clear HB; have a0 := HA.out.1.c0; have a1 := HA.out.1.c1; have a2 := HA.out.1.c2; have a3 := HA.out.1.c3; have a4 := HA.out.1.c4; have a5 := HA.out.1.c5; have b0 := HA.out.2.1.c0; have b1 := HA.out.2.1.c1; have b2 := HA.out.2.1.c2; have b3 := HA.out.2.1.c3; have b4 := HA.out.2.1.c4; have b5 := HA.out.2.1.c5) | (go_at_call 96; refine (c2 _).mono ?_; rintro e w1 ⟨rfl, hb1⟩; have HB := hide (And.intro (HA.out.1.keep hb1) (And.intro (HA.out.2.1.keep hb1) (HA.out.2.2.trans (hb1.mono (Nat.le_of_lt HA.out.1.lt))))); clear HA hb1 a0 a1 a2 a3 a4 a5 b0 b1 b2 b3 b4 b5; have HA := HB; clear HB; have a0 := HA.out.1.c0; have a1 := HA.out.1.c1; have a2 := HA.out.1.c2; have a3 := HA.out.1.c3; have a4 := HA.out.1.c4; have a5 := HA.out.1.c5; have b0 := HA.out.2.1.c0; have b1 := HA.out.2.1.c1; have b2 := HA.out.2.1.c2; have b3 := HA.out.2.1.c3; have b4 := HA.out.2.1.c4; have b5 := HA.out.2.1.c5) | (go_at_call 97; refine (c3 _).mono ?_; rintro e w1 ⟨rfl, hb1⟩; have HB := hide (And.intro (HA.out.1.keep hb1) (And.intro (HA.out.2.1.keep hb1) (HA.out.2.2.trans (hb1.mono (Nat.le_of_lt HA.out.1.lt))))); clear HA hb1 a0 a1 a2 a3 a4 a5 b0 b1 b2 b3 b4 b5; have HA := HB; clear HB; have a0 := HA.out.1.c0; have a1 := HA.out.1.c1; have a2 := HA.out.1.c2; have a3 := HA.out.1.c3; have a4 := HA.out.1.c4; have a5 := HA.out.1.c5; have b0 := HA.out.2.1.c0; have b1 := HA.out.2.1.c1; have b2 := HA.out.2.1.c2; have b3 := HA.out.2.1.c3; have b4 := HA.out.2.1.c4; have b5 := HA.out.2.1.c5) | (go_at_call 98; refine (c4 _).mono ?_; rintro e w1 ⟨rfl, hb1⟩; have HB := hide (And.intro (HA.out.1.keep hb1) (And.intro (HA.out.2.1.keep hb1) (HA.out.2.2.trans (hb1.mono (Nat.le_of_lt HA.out.1.lt))))); clear HA hb1 a0 a1 a2 a3 a4 a5 b0 b1 b2 b3 b4 b5; have HA := HB; clear HB; have a0 := HA.out.1.c0; have a1 := HA.out.1.c1; have a2 := HA.out.1.c2; have a3 := HA.out.1.c3; have a4 := HA.out.1.c4; have a5 := HA.out.1.c5; have b0 := HA.out.2.1.c0; have b1 := HA.out.2.1.c1; have b2 := HA.out.2.1.c2; have b3 := HA.out.2.1.c3; have b4 := HA.out.2.1.c4; have b5 := HA.out.2.1.c5))
    clear c1 c2 c3 c4
    go_ret
    exact ⟨by rw [HR.out]; rfl, by rw [← HN.out]; exact HA.out.2.2⟩
  · cases t2
    · have x0 : Br ((w.alloc (.cells #[.int .i64 (up x.s), .bool x.k, .int .i64 x.n, .int .i64 x.lo, .int .i64 x.hi, .int .i64 (up x.p)] 53)).alloc (.cells #[.int .i64 (up y.s), .bool y.k, .int .i64 y.n, .int .i64 y.lo, .int .i64 y.hi, .int .i64 (up y.p)] 53)) (w.heap.size) (up x.s) x.k x.n x.lo x.hi (up x.p) := ((Br.new w (up x.s) x.k x.n x.lo x.hi (up x.p) 53)).keep ((Below.refl _ _).alloc (Nat.le_refl _) _)
      have x1 : Br ((w.alloc (.cells #[.int .i64 (up x.s), .bool x.k, .int .i64 x.n, .int .i64 x.lo, .int .i64 x.hi, .int .i64 (up x.p)] 53)).alloc (.cells #[.int .i64 (up y.s), .bool y.k, .int .i64 y.n, .int .i64 y.lo, .int .i64 y.hi, .int .i64 (up y.p)] 53)) (w.heap.size + 1) (up y.s) y.k y.n y.lo y.hi (up y.p) := (by simpa using Br.new (w.alloc (.cells #[.int .i64 (up x.s), .bool x.k, .int .i64 x.n, .int .i64 x.lo, .int .i64 x.hi, .int .i64 (up x.p)] 53)) (up y.s) y.k y.n y.lo y.hi (up y.p) 53 : Br ((w.alloc (.cells #[.int .i64 (up x.s), .bool x.k, .int .i64 x.n, .int .i64 x.lo, .int .i64 x.hi, .int .i64 (up x.p)] 53)).alloc (.cells #[.int .i64 (up y.s), .bool y.k, .int .i64 y.n, .int .i64 y.lo, .int .i64 y.hi, .int .i64 (up y.p)] 53)) (w.heap.size + 1) (up y.s) y.k y.n y.lo y.hi (up y.p))
      have xb : Below w.heap.size w ((w.alloc (.cells #[.int .i64 (up x.s), .bool x.k, .int .i64 x.n, .int .i64 x.lo, .int .i64 x.hi, .int .i64 (up x.p)] 53)).alloc (.cells #[.int .i64 (up y.s), .bool y.k, .int .i64 y.n, .int .i64 y.lo, .int .i64 y.hi, .int .i64 (up y.p)] 53)) := (by repeat (first | exact Below.refl _ _ | (refine Below.drew ?_) | (refine below_drewN ?_ _) | (refine Below.setCell ?_ (by first | omega | (simp; done) | (simp; omega)) _) | (refine Below.alloc ?_ (by first | omega | (simp; done) | (simp; omega)) _) | (refine Below.trans ?_ (Below.mono (by assumption) (by first | omega | (simp; done) | (simp; omega))))))
      go_enter Try.func48, Try.ntmps48
      go_upto_region 1 with fail
      go_name_world W hW
      rw [hW] at x0 x1 xb
      clear hW
      obtain ⟨N, hN⟩ : ∃ N, N = w.heap.size := ⟨_, rfl⟩
      rw [← hN] at x0 x1 xb ⊢
      have HN : Hid (N = w.heap.size) := hN
      clear hN
      have HA := hide (And.intro x0 (And.intro x1 xb))
      clear x0 x1 xb
      have a0 := HA.out.1.c0
      have a1 := HA.out.1.c1
      have a2 := HA.out.1.c2
      have a3 := HA.out.1.c3
      have a4 := HA.out.1.c4
      have a5 := HA.out.1.c5
      have b0 := HA.out.2.1.c0
      have b1 := HA.out.2.1.c1
      have b2 := HA.out.2.1.c2
      have b3 := HA.out.2.1.c3
      have b4 := HA.out.2.1.c4
      have b5 := HA.out.2.1.c5
      go_wp2_with (first | (go_at_call 95; refine (c1 _).mono ?_; rintro e w1 ⟨rfl, hb1⟩; have HB := hide (And.intro (HA.out.1.keep hb1) (And.intro (HA.out.2.1.keep hb1) (HA.out.2.2.trans (hb1.mono (Nat.le_of_lt HA.out.1.lt))))); clear HA hb1 a0 a1 a2 a3 a4 a5 b0 b1 b2 b3 b4 b5; have HA := HB; clear HB; have a0 := HA.out.1.c0; have a1 := HA.out.1.c1; have a2 := HA.out.1.c2; have a3 := HA.out.1.c3; have a4 := HA.out.1.c4; have a5 := HA.out.1.c5; have b0 := HA.out.2.1.c0; have b1 := HA.out.2.1.c1; have b2 := HA.out.2.1.c2; have b3 := HA.out.2.1.c3; have b4 := HA.out.2.1.c4; have b5 := HA.out.2.1.c5) | (go_at_call 96; refine (c2 _).mono ?_; rintro e w1 ⟨rfl, hb1⟩; have HB := hide (And.intro (HA.out.1.keep hb1) (And.intro (HA.out.2.1.keep hb1) (HA.out.2.2.trans (hb1.mono (Nat.le_of_lt HA.out.1.lt))))); clear HA hb1 a0 a1 a2 a3 a4 a5 b0 b1 b2 b3 b4 b5; have HA := HB; clear HB; have a0 := HA.out.1.c0; have a1 := HA.out.1.c1; have a2 := HA.out.1.c2; have a3 := HA.out.1.c3; have a4 := HA.out.1.c4; have a5 := HA.out.1.c5; have b0 := HA.out.2.1.c0; have b1 := HA.out.2.1.c1; have b2 := HA.out.2.1.c2; have b3 := HA.out.2.1.c3; have b4 := HA.out.2.1.c4; have b5 := HA.out.2.1.c5) | (go_at_call 97; refine (c3 _).mono ?_; rintro e w1 ⟨rfl, hb1⟩; have HB := hide (And.intro (HA.out.1.keep hb1) (And.intro (HA.out.2.1.keep hb1) (HA.out.2.2.trans (hb1.mono (Nat.le_of_lt HA.out.1.lt))))); clear HA hb1 a0 a1 a2 a3 a4 a5 b0 b1 b2 b3 b4 b5; have HA := HB; clear HB; have a0 := HA.out.1.c0; have a1 := HA.out.1.c1; have a2 := HA.out.1.c2; have a3 := HA.out.1.c3; have a4 := HA.out.1.c4; have a5 := HA.out.1.c5; have b0 := HA.out.2.1.c0; have b1 := HA.out.2.1.c1; have b2 := HA.out.2.1.c2; have b3 := HA.out.2.1.c3; have b4 := HA.out.2.1.c4; have b5 := HA.out.2.1.c5) | (go_at_call 98; refine (c4 _).mono ?_; rintro e w1 ⟨rfl, hb1⟩; have HB := hide (And.intro (HA.out.1.keep hb1) (And.intro (HA.out.2.1.keep hb1) (HA.out.2.2.trans (hb1.mono (Nat.le_of_lt HA.out.1.lt))))); clear HA hb1 a0 a1 a2 a3 a4 a5 b0 b1 b2 b3 b4 b5; have HA := HB; clear HB; have a0 := HA.out.1.c0; have a1 := HA.out.1.c1; have a2 := HA.out.1.c2; have a3 := HA.out.1.c3; have a4 := HA.out.1.c4; have a5 := HA.out.1.c5; have b0 := HA.out.2.1.c0; have b1 := HA.out.2.1.c1; have b2 := HA.out.2.1.c2; have b3 := HA.out.2.1.c3; have b4 := HA.out.2.1.c4; have b5 := HA.out.2.1.c5))
      clear c1 c2 c3 c4
      go_ret
      exact ⟨by rw [HR.out]; rfl, by rw [← HN.out]; exact HA.out.2.2⟩
    · cases t3
      · have x0 : Br ((w.alloc (.cells #[.int .i64 (up x.s), .bool x.k, .int .i64 x.n, .int .i64 x.lo, .int .i64 x.hi, .int .i64 (up x.p)] 53)).alloc (.cells #[.int .i64 (up y.s), .bool y.k, .int .i64 y.n, .int .i64 y.lo, .int .i64 y.hi, .int .i64 (up y.p)] 53)) (w.heap.size) (up x.s) x.k x.n x.lo x.hi (up x.p) := ((Br.new w (up x.s) x.k x.n x.lo x.hi (up x.p) 53)).keep ((Below.refl _ _).alloc (Nat.le_refl _) _)
        have x1 : Br ((w.alloc (.cells #[.int .i64 (up x.s), .bool x.k, .int .i64 x.n, .int .i64 x.lo, .int .i64 x.hi, .int .i64 (up x.p)] 53)).alloc (.cells #[.int .i64 (up y.s), .bool y.k, .int .i64 y.n, .int .i64 y.lo, .int .i64 y.hi, .int .i64 (up y.p)] 53)) (w.heap.size + 1) (up y.s) y.k y.n y.lo y.hi (up y.p) := (by simpa using Br.new (w.alloc (.cells #[.int .i64 (up x.s), .bool x.k, .int .i64 x.n, .int .i64 x.lo, .int .i64 x.hi, .int .i64 (up x.p)] 53)) (up y.s) y.k y.n y.lo y.hi (up y.p) 53 : Br ((w.alloc (.cells #[.int .i64 (up x.s), .bool x.k, .int .i64 x.n, .int .i64 x.lo, .int .i64 x.hi, .int .i64 (up x.p)] 53)).alloc (.cells #[.int .i64 (up y.s), .bool y.k, .int .i64 y.n, .int .i64 y.lo, .int .i64 y.hi, .int .i64 (up y.p)] 53)) (w.heap.size + 1) (up y.s) y.k y.n y.lo y.hi (up y.p))
        have xb : Below w.heap.size w ((w.alloc (.cells #[.int .i64 (up x.s), .bool x.k, .int .i64 x.n, .int .i64 x.lo, .int .i64 x.hi, .int .i64 (up x.p)] 53)).alloc (.cells #[.int .i64 (up y.s), .bool y.k, .int .i64 y.n, .int .i64 y.lo, .int .i64 y.hi, .int .i64 (up y.p)] 53)) := (by repeat (first | exact Below.refl _ _ | (refine Below.drew ?_) | (refine below_drewN ?_ _) | (refine Below.setCell ?_ (by first | omega | (simp; done) | (simp; omega)) _) | (refine Below.alloc ?_ (by first | omega | (simp; done) | (simp; omega)) _) | (refine Below.trans ?_ (Below.mono (by assumption) (by first | omega | (simp; done) | (simp; omega))))))
        go_enter Try.func48, Try.ntmps48
        go_upto_region 1 with fail
        go_name_world W hW
        rw [hW] at x0 x1 xb
        clear hW
        obtain ⟨N, hN⟩ : ∃ N, N = w.heap.size := ⟨_, rfl⟩
        rw [← hN] at x0 x1 xb ⊢
        have HN : Hid (N = w.heap.size) := hN
        clear hN
        have HA := hide (And.intro x0 (And.intro x1 xb))
        clear x0 x1 xb
        have a0 := HA.out.1.c0
        have a1 := HA.out.1.c1
        have a2 := HA.out.1.c2
        have a3 := HA.out.1.c3
        have a4 := HA.out.1.c4
        have a5 := HA.out.1.c5
        have b0 := HA.out.2.1.c0
        have b1 := HA.out.2.1.c1
        have b2 := HA.out.2.1.c2
        have b3 := HA.out.2.1.c3
        have b4 := HA.out.2.1.c4
        have b5 := HA.out.2.1.c5
        go_wp2_with (first | (go_at_call 95; refine (c1 _).mono ?_; rintro e w1 ⟨rfl, hb1⟩; have HB := hide (And.intro (HA.out.1.keep hb1) (And.intro (HA.out.2.1.keep hb1) (HA.out.2.2.trans (hb1.mono (Nat.le_of_lt HA.out.1.lt))))); clear HA hb1 a0 a1 a2 a3 a4 a5 b0 b1 b2 b3 b4 b5; have HA := HB; clear HB; have a0 := HA.out.1.c0; have a1 := HA.out.1.c1; have a2 := HA.out.1.c2; have a3 := HA.out.1.c3; have a4 := HA.out.1.c4; have a5 := HA.out.1.c5; have b0 := HA.out.2.1.c0; have b1 := HA.out.2.1.c1; have b2 := HA.out.2.1.c2; have b3 := HA.out.2.1.c3; have b4 := HA.out.2.1.c4; have b5 := HA.out.2.1.c5) | (go_at_call 96; refine (c2 _).mono ?_; rintro e w1 ⟨rfl, hb1⟩; have HB := hide (And.intro (HA.out.1.keep hb1) (And.intro (HA.out.2.1.keep hb1) (HA.out.2.2.trans (hb1.mono (Nat.le_of_lt HA.out.1.lt))))); clear HA hb1 a0 a1 a2 a3 a4 a5 b0 b1 b2 b3 b4 b5; have HA := HB; clear HB; have a0 := HA.out.1.c0; have a1 := HA.out.1.c1; have a2 := HA.out.1.c2; have a3 := HA.out.1.c3; have a4 := HA.out.1.c4; have a5 := HA.out.1.c5; have b0 := HA.out.2.1.c0; have b1 := HA.out.2.1.c1; have b2 := HA.out.2.1.c2; have b3 := HA.out.2.1.c3; have b4 := HA.out.2.1.c4; have b5 := HA.out.2.1.c5) | (go_at_call 97; refine (c3 _).mono ?_; rintro e w1 ⟨rfl, hb1⟩; have HB := hide (And.intro (HA.out.1.keep hb1) (And.intro (HA.out.2.1.keep hb1) (HA.out.2.2.trans (hb1.mono (Nat.le_of_lt HA.out.1.lt))))); clear HA hb1 a0 a1 a2 a3 a4 a5 b0 b1 b2 b3 b4 b5; have HA := HB; clear HB; have a0 := HA.out.1.c0; have a1 := HA.out.1.c1; have a2 := HA.out.1.c2; have a3 := HA.out.1.c3; have a4 := HA.out.1.c4; have a5 := HA.out.1.c5; have b0 := HA.out.2.1.c0; have b1 := HA.out.2.1.c1; have b2 := HA.out.2.1.c2; have b3 := HA.out.2.1.c3; have b4 := HA.out.2.1.c4; have b5 := HA.out.2.1.c5) | (go_at_call 98; refine (c4 _).mono ?_; rintro e w1 ⟨rfl, hb1⟩; have HB := hide (And.intro (HA.out.1.keep hb1) (And.intro (HA.out.2.1.keep hb1) (HA.out.2.2.trans (hb1.mono (Nat.le_of_lt HA.out.1.lt))))); clear HA hb1 a0 a1 a2 a3 a4 a5 b0 b1 b2 b3 b4 b5; have HA := HB; clear HB; have a0 := HA.out.1.c0; have a1 := HA.out.1.c1; have a2 := HA.out.1.c2; have a3 := HA.out.1.c3; have a4 := HA.out.1.c4; have a5 := HA.out.1.c5; have b0 := HA.out.2.1.c0; have b1 := HA.out.2.1.c1; have b2 := HA.out.2.1.c2; have b3 := HA.out.2.1.c3; have b4 := HA.out.2.1.c4; have b5 := HA.out.2.1.c5))
        clear c1 c2 c3 c4
        go_ret
        exact ⟨by rw [HR.out]; rfl, by rw [← HN.out]; exact HA.out.2.2⟩
      · have x0 : Br ((w.alloc (.cells #[.int .i64 (up x.s), .bool x.k, .int .i64 x.n, .int .i64 x.lo, .int .i64 x.hi, .int .i64 (up x.p)] 53)).alloc (.cells #[.int .i64 (up y.s), .bool y.k, .int .i64 y.n, .int .i64 y.lo, .int .i64 y.hi, .int .i64 (up y.p)] 53)) (w.heap.size) (up x.s) x.k x.n x.lo x.hi (up x.p) := ((Br.new w (up x.s) x.k x.n x.lo x.hi (up x.p) 53)).keep ((Below.refl _ _).alloc (Nat.le_refl _) _)
        have x1 : Br ((w.alloc (.cells #[.int .i64 (up x.s), .bool x.k, .int .i64 x.n, .int .i64 x.lo, .int .i64 x.hi, .int .i64 (up x.p)] 53)).alloc (.cells #[.int .i64 (up y.s), .bool y.k, .int .i64 y.n, .int .i64 y.lo, .int .i64 y.hi, .int .i64 (up y.p)] 53)) (w.heap.size + 1) (up y.s) y.k y.n y.lo y.hi (up y.p) := (by simpa using Br.new (w.alloc (.cells #[.int .i64 (up x.s), .bool x.k, .int .i64 x.n, .int .i64 x.lo, .int .i64 x.hi, .int .i64 (up x.p)] 53)) (up y.s) y.k y.n y.lo y.hi (up y.p) 53 : Br ((w.alloc (.cells #[.int .i64 (up x.s), .bool x.k, .int .i64 x.n, .int .i64 x.lo, .int .i64 x.hi, .int .i64 (up x.p)] 53)).alloc (.cells #[.int .i64 (up y.s), .bool y.k, .int .i64 y.n, .int .i64 y.lo, .int .i64 y.hi, .int .i64 (up y.p)] 53)) (w.heap.size + 1) (up y.s) y.k y.n y.lo y.hi (up y.p))
        have xb : Below w.heap.size w ((w.alloc (.cells #[.int .i64 (up x.s), .bool x.k, .int .i64 x.n, .int .i64 x.lo, .int .i64 x.hi, .int .i64 (up x.p)] 53)).alloc (.cells #[.int .i64 (up y.s), .bool y.k, .int .i64 y.n, .int .i64 y.lo, .int .i64 y.hi, .int .i64 (up y.p)] 53)) := (by repeat (first | exact Below.refl _ _ | (refine Below.drew ?_) | (refine below_drewN ?_ _) | (refine Below.setCell ?_ (by first | omega | (simp; done) | (simp; omega)) _) | (refine Below.alloc ?_ (by first | omega | (simp; done) | (simp; omega)) _) | (refine Below.trans ?_ (Below.mono (by assumption) (by first | omega | (simp; done) | (simp; omega))))))
        go_enter Try.func48, Try.ntmps48
        go_upto_region 1 with fail
        go_name_world W hW
        rw [hW] at x0 x1 xb
        clear hW
        obtain ⟨N, hN⟩ : ∃ N, N = w.heap.size := ⟨_, rfl⟩
        rw [← hN] at x0 x1 xb ⊢
        have HN : Hid (N = w.heap.size) := hN
        clear hN
        have HA := hide (And.intro x0 (And.intro x1 xb))
        clear x0 x1 xb
        have a0 := HA.out.1.c0
        have a1 := HA.out.1.c1
        have a2 := HA.out.1.c2
        have a3 := HA.out.1.c3
        have a4 := HA.out.1.c4
        have a5 := HA.out.1.c5
        have b0 := HA.out.2.1.c0
        have b1 := HA.out.2.1.c1
        have b2 := HA.out.2.1.c2
        have b3 := HA.out.2.1.c3
        have b4 := HA.out.2.1.c4
        have b5 := HA.out.2.1.c5
        go_wp2_with (first | (go_at_call 95; refine (c1 _).mono ?_; rintro e w1 ⟨rfl, hb1⟩; have HB := hide (And.intro (HA.out.1.keep hb1) (And.intro (HA.out.2.1.keep hb1) (HA.out.2.2.trans (hb1.mono (Nat.le_of_lt HA.out.1.lt))))); clear HA hb1 a0 a1 a2 a3 a4 a5 b0 b1 b2 b3 b4 b5; have HA := HB; clear HB; have a0 := HA.out.1.c0; have a1 := HA.out.1.c1; have a2 := HA.out.1.c2; have a3 := HA.out.1.c3; have a4 := HA.out.1.c4; have a5 := HA.out.1.c5; have b0 := HA.out.2.1.c0; have b1 := HA.out.2.1.c1; have b2 := HA.out.2.1.c2; have b3 := HA.out.2.1.c3; have b4 := HA.out.2.1.c4; have b5 := HA.out.2.1.c5) | (go_at_call 96; refine (c2 _).mono ?_; rintro e w1 ⟨rfl, hb1⟩; have HB := hide (And.intro (HA.out.1.keep hb1) (And.intro (HA.out.2.1.keep hb1) (HA.out.2.2.trans (hb1.mono (Nat.le_of_lt HA.out.1.lt))))); clear HA hb1 a0 a1 a2 a3 a4 a5 b0 b1 b2 b3 b4 b5; have HA := HB; clear HB; have a0 := HA.out.1.c0; have a1 := HA.out.1.c1; have a2 := HA.out.1.c2; have a3 := HA.out.1.c3; have a4 := HA.out.1.c4; have a5 := HA.out.1.c5; have b0 := HA.out.2.1.c0; have b1 := HA.out.2.1.c1; have b2 := HA.out.2.1.c2; have b3 := HA.out.2.1.c3; have b4 := HA.out.2.1.c4; have b5 := HA.out.2.1.c5) | (go_at_call 97; refine (c3 _).mono ?_; rintro e w1 ⟨rfl, hb1⟩; have HB := hide (And.intro (HA.out.1.keep hb1) (And.intro (HA.out.2.1.keep hb1) (HA.out.2.2.trans (hb1.mono (Nat.le_of_lt HA.out.1.lt))))); clear HA hb1 a0 a1 a2 a3 a4 a5 b0 b1 b2 b3 b4 b5; have HA := HB; clear HB; have a0 := HA.out.1.c0; have a1 := HA.out.1.c1; have a2 := HA.out.1.c2; have a3 := HA.out.1.c3; have a4 := HA.out.1.c4; have a5 := HA.out.1.c5; have b0 := HA.out.2.1.c0; have b1 := HA.out.2.1.c1; have b2 := HA.out.2.1.c2; have b3 := HA.out.2.1.c3; have b4 := HA.out.2.1.c4; have b5 := HA.out.2.1.c5) | (go_at_call 98; refine (c4 _).mono ?_; rintro e w1 ⟨rfl, hb1⟩; have HB := hide (And.intro (HA.out.1.keep hb1) (And.intro (HA.out.2.1.keep hb1) (HA.out.2.2.trans (hb1.mono (Nat.le_of_lt HA.out.1.lt))))); clear HA hb1 a0 a1 a2 a3 a4 a5 b0 b1 b2 b3 b4 b5; have HA := HB; clear HB; have a0 := HA.out.1.c0; have a1 := HA.out.1.c1; have a2 := HA.out.1.c2; have a3 := HA.out.1.c3; have a4 := HA.out.1.c4; have a5 := HA.out.1.c5; have b0 := HA.out.2.1.c0; have b1 := HA.out.2.1.c1; have b2 := HA.out.2.1.c2; have b3 := HA.out.2.1.c3; have b4 := HA.out.2.1.c4; have b5 := HA.out.2.1.c5))
        clear c1 c2 c3 c4
        go_ret
        exact ⟨by rw [HR.out]; rfl, by rw [← HN.out]; exact HA.out.2.2⟩
end Go.Proofs.Ytmhicllhjiglkaa
namespace Go.Proofs.Ytmhicllhjiglkaa
open Go.RowKit
/-- each within the other's -/
def allV : List V → List V → Bool
  | x :: s, y :: t => withinV x y && allV s t
  | [], [] => true
  | _, _ => false
def allS : List (List Int) → List (List Int) → Bool
  | x :: s, y :: t => wiL x y && allS s t
  | [], [] => true
  | _, _ => false
theorem allV_len : ∀ (s t : List V), s.length ≠ t.length → allV s t = false := by
  intro s
  induction s with
  | nil => intro t h; cases t with | nil => exact absurd rfl h | cons y t => rfl
  | cons x s ih => intro t h; cases t with
    | nil => rfl
    | cons y t => rw [allV, ih t (by simpa using h), Bool.and_false]
theorem allS_len : ∀ (s t : List (List Int)), s.length ≠ t.length → allS s t = false := by
  intro s
  induction s with
  | nil => intro t h; cases t with | nil => exact absurd rfl h | cons y t => rfl
  | cons x s ih => intro t h; cases t with
    | nil => rfl
    | cons y t => rw [allS, ih t (by simpa using h), Bool.and_false]
set_option maxRecDepth 100000 in
set_option maxHeartbeats 4000000 in
theorem vwithin_any (us ts : List V) (a b : Option Addr) (c d : Nat) (w : World) (hr : RV w a (us.map V.raw)) (hs : RV w b (ts.map V.raw)) (hl1 : us.length ≤ 100000) (hg : ∀ u ∈ us, u.p &&& 3 = u.p) (hg2 : ∀ u ∈ ts, u.p &&& 3 = u.p) :
    Calls Try.prog 47 #[.slice a us.length c, .slice b ts.length d, .func (.func 48) #[] #[]] w fun e w' => e = .returned (.bool (allV us ts)) ∧ Below w.heap.size w w' := by
  have HR := hide hr
  have HS := hide hs
  have HG := hide (And.intro hg hg2)
  clear hr hs hg hg2
  have i1 : (us.length : Int) ≤ 100000 := by omega
  by_cases hl : us.length = ts.length
  · have hb0 : ((us.length : Int) != ts.length) = false := by simp [hl]
    have HLn := hide hl
    clear hl
    go_enter Try.func47, Try.ntmps47
    go_wp2_with fail
    clear hb0
    go_loopw [17] (fun sk wr => ∃ k : Nat, sk = .int .i64 k ∧ k ≤ us.length ∧ Hid (Below w.heap.size w wr ∧ allV (us.drop k) (ts.drop k) = allV us ts)) (fun sk _ => us.length - (intOf sk).toNat)
    case atStart => exact ⟨0, rfl, Nat.zero_le _, Below.refl _ _, rfl⟩
    case round =>
      obtain ⟨k, rfl, hk, h4⟩ := hrel
      by_cases hkv : k < us.length
      · have hkv2 : (k : Int) < us.length := by omega
        have hkt : k < ts.length := by have := HLn.out; omega
        have hkt2 : (k : Int) < ts.length := by omega
        obtain ⟨b1, o1, x0, hX, rfl, hx6⟩ := HR.out.at (m := k) (by rw [List.length_map]; exact hkv)
        obtain ⟨b2, o2, y0, hY, rfl, hy6⟩ := HS.out.at (m := k) (by rw [List.length_map]; exact hkt)
        obtain ⟨x, hxk, rfl⟩ : ∃ x, us[k]? = some x ∧ x.raw = x0 := by rw [List.getElem?_map, Option.map_eq_some_iff] at hX; exact hX
        obtain ⟨y, hyk, rfl⟩ : ∃ y, ts[k]? = some y ∧ y.raw = y0 := by rw [List.getElem?_map, Option.map_eq_some_iff] at hY; exact hY
        have cW := fun w => within_V x y w (HG.out.1 x (List.mem_of_getElem? hxk)) (HG.out.2 y (List.mem_of_getElem? hyk))
        have HD : Hid (allV us ts = (withinV x y && allV (us.drop (k + 1)) (ts.drop (k + 1)))) := hide (by
          rw [← h4.out.2, List.drop_eq_getElem_cons hkv, List.drop_eq_getElem_cons hkt]
          obtain ⟨_, e1⟩ := List.getElem?_eq_some_iff.1 hxk
          obtain ⟨_, e2⟩ := List.getElem?_eq_some_iff.1 hyk
          rw [e1, e2]; rfl)
        have HX := hide (And.intro hx6 hy6)
        have t6 := hx6.keep h4.out.1
        have d0 := t6.c0
        have d1 := t6.c1
        have d2 := t6.c2
        have d3 := t6.c3
        have d4 := t6.c4
        have d5 := t6.c5
        have HW := hide h4.out.1
        clear hX hY hx6 hy6 hxk hyk t6 h4
        generalize withinV x y = bv at *
        go_upto_region 6 with fail
        go_name_world W6 hW6
        obtain ⟨n8, h8⟩ : ∃ z9, z9 = wr.heap.size := ⟨_, rfl⟩
        rw [← h8]
        have HW6 : Hid (Below wr.heap.size wr W6 ∧ B6 W6 n8 0 x.raw) := hide (by rw [← hW6, h8]; exact ⟨(Below.refl _ _).alloc (Nat.le_refl _) _, B6.new _ _ _⟩)
        clear hW6 h8 d0 d1 d2 d3 d4 d5
        have t7 := (HX.out.2.keep HW.out).keep HW6.out.1
        have d0 := t7.c0
        have d1 := t7.c1
        have d2 := t7.c2
        have d3 := t7.c3
        have d4 := t7.c4
        have d5 := t7.c5
        clear t7
        go_upto_region 7 with fail
        go_name_world W7 hW7
        obtain ⟨n9, h9⟩ : ∃ z9, z9 = W6.heap.size := ⟨_, rfl⟩
        rw [← h9]
        have HW7 : Hid (Below wr.heap.size wr W7 ∧ B6 W7 n8 0 x.raw ∧ B6 W7 n9 0 y.raw) := by
          unfold Hid
          rw [← hW7, h9]
          have u : Below W6.heap.size W6 (W6.alloc (.cells #[.int .i64 y.raw.s, .bool y.raw.k, .int .i64 y.raw.n, .int .i64 y.raw.lo, .int .i64 y.raw.hi, .int .i64 y.raw.p] 53)) := (Below.refl _ _).alloc (Nat.le_refl _) _
          exact ⟨HW6.out.1.trans (u.mono HW6.out.1.size), HW6.out.2.keep u, B6.new _ _ _⟩
        clear hW7 h9 d0 d1 d2 d3 d4 d5 HW6
        have d0 := HW7.out.2.1.c0
        have d1 := HW7.out.2.1.c1
        have d2 := HW7.out.2.1.c2
        have d3 := HW7.out.2.1.c3
        have d4 := HW7.out.2.1.c4
        have d5 := HW7.out.2.1.c5
        have g0 := HW7.out.2.2.c0
        have g1 := HW7.out.2.2.c1
        have g2 := HW7.out.2.2.c2
        have g3 := HW7.out.2.2.c3
        have g4 := HW7.out.2.2.c4
        have g5 := HW7.out.2.2.c5
        have HB := hide (HW.out.trans (HW7.out.1.mono HW.out.size))
        cases bv with
        | false =>
          go_wp2_with (go_at_call 48; refine (cW _).mono ?_; rintro e wZ ⟨rfl, hZ⟩; replace hZ := hide hZ; clear cW)
          go_ret
          exact ⟨by rw [HD.out]; rfl, HB.out.trans (hZ.out.mono HB.out.size)⟩
        | true =>
          have HE : Hid (allV us ts = allV (us.drop (k + 1)) (ts.drop (k + 1))) := hide (by rw [HD.out, Bool.true_and])
          clear HD
          go_wp2_with (go_at_call 48; refine (cW _).mono ?_; rintro e wZ ⟨rfl, hZ⟩; replace hZ := hide hZ; clear cW)
          exact ⟨⟨k + 1, by simp, by omega, ⟨HB.out.trans (hZ.out.mono HB.out.size), HE.out.symm⟩⟩, by simp [intOf]; omega⟩
      · have hke : k = us.length := by omega
        subst hke
        have HE : Hid (allV us ts = true) := hide (by rw [← h4.out.2, List.drop_of_length_le (Nat.le_refl _), List.drop_of_length_le (by have := HLn.out; omega)]; rfl)
        go_wp2
        go_ret
        exact ⟨by rw [HE.out]; rfl, h4.out.1⟩
  · have hb0 : ((us.length : Int) != ts.length) = true := by rw [bne_iff_ne]; omega
    rw [allV_len us ts hl]
    go_enter Try.func47, Try.ntmps47
    go_wp2
    go_ret
    exact ⟨by simp, Below.refl _ _⟩
set_option maxRecDepth 100000 in
set_option maxHeartbeats 4000000 in
theorem swithin_S (ss tt : List (List Int)) (a b : Option Addr) (c d : Nat) (w : World) (hr : RR w a ss) (hs : RR w b tt) (hl1 : ss.length ≤ 100000) (hi1 : ∀ l ∈ ss, l.length ≤ 100000) :
    Calls Try.prog 49 #[.slice a ss.length c, .slice b tt.length d, .func (.func 50) #[] #[]] w fun e w' => e = .returned (.bool (allS ss tt)) ∧ Below w.heap.size w w' := by
  have HR := hide hr
  have HS := hide hs
  have HI := hide hi1
  clear hr hs hi1
  have i1 : (ss.length : Int) ≤ 100000 := by omega
  by_cases hl : ss.length = tt.length
  · have hb0 : ((ss.length : Int) != tt.length) = false := by simp [hl]
    have HLn := hide hl
    clear hl
    go_enter Try.func49, Try.ntmps49
    go_wp2_with fail
    clear hb0
    go_loop [17] (fun sk => ∃ k : Nat, sk = .int .i64 k ∧ k ≤ ss.length ∧ Hid (allS (ss.drop k) (tt.drop k) = allS ss tt)) (fun sk => ss.length - (intOf sk).toNat)
    case atStart => exact ⟨0, rfl, Nat.zero_le _, rfl⟩
    case round =>
      obtain ⟨k, rfl, hk, h4⟩ := hrel
      by_cases hkv : k < ss.length
      · have hkv2 : (k : Int) < ss.length := by omega
        have hkt : k < tt.length := by have := HLn.out; omega
        have hkt2 : (k : Int) < tt.length := by omega
        obtain ⟨b1, o1, l, ai, ci, hX, rfl, f1, f2, f3, f4⟩ := HR.out.at hkv
        obtain ⟨b2, o2, m, aj, cj, hY, rfl, f5, f6, f7, f8⟩ := HS.out.at hkt
        have hll := HI.out l (List.mem_of_getElem? hX)
        have cS := bwithin_any l m ai aj ci cj w f2 f6 (by omega) f7
        have HD : Hid (allS ss tt = (wiL l m && allS (ss.drop (k + 1)) (tt.drop (k + 1)))) := hide (by
          rw [← h4.out, List.drop_eq_getElem_cons hkv, List.drop_eq_getElem_cons hkt]
          obtain ⟨_, e1⟩ := List.getElem?_eq_some_iff.1 hX
          obtain ⟨_, e2⟩ := List.getElem?_eq_some_iff.1 hY
          rw [e1, e2]; rfl)
        clear hX hY f2 f3 f4 f6 f7 f8 h4
        generalize wiL l m = bv at *
        cases bv with
        | false =>
          go_wp2_with (go_at_call 50; refine cS.mono ?_; rintro e w' ⟨hw, rfl⟩; obtain rfl := hw.symm; clear cS)
          go_ret
          exact ⟨by rw [HD.out]; rfl, Below.refl _ _⟩
        | true =>
          have HE : Hid (allS ss tt = allS (ss.drop (k + 1)) (tt.drop (k + 1))) := hide (by rw [HD.out, Bool.true_and])
          clear HD
          go_wp2_with (go_at_call 50; refine cS.mono ?_; rintro e w' ⟨hw, rfl⟩; obtain rfl := hw.symm; clear cS)
          exact ⟨⟨k + 1, by simp, by omega, HE.out.symm⟩, by simp [intOf]; omega⟩
      · have hke : k = ss.length := by omega
        subst hke
        have HE : Hid (allS ss tt = true) := hide (by rw [← h4.out, List.drop_of_length_le (Nat.le_refl _), List.drop_of_length_le (by have := HLn.out; omega)]; rfl)
        go_wp2
        go_ret
        exact ⟨by rw [HE.out]; rfl, Below.refl _ _⟩
  · have hb0 : ((ss.length : Int) != tt.length) = true := by rw [bne_iff_ne]; omega
    rw [allS_len ss tt hl]
    go_enter Try.func49, Try.ntmps49
    go_wp2
    go_ret
    exact ⟨by simp, Below.refl _ _⟩
end Go.Proofs.Ytmhicllhjiglkaa
namespace Go.Proofs.Ytmhicllhjiglkaa
open Go.RowKit
theorem vequal_t (vs : List R) (a b : Option Addr) (c d : Nat) (w : World) (hr : RV w a vs) (hs : RV w b vs) (hl1 : vs.length ≤ 100000) :
    Calls Try.prog 54 #[.slice a vs.length c, .slice b vs.length d] w fun e w' => e = .returned (.bool true) ∧ Below w.heap.size w w' :=
  (vequal_any vs vs a b c d w hr hs hl1 hl1).mono fun _ _ ⟨bv, h1, ⟨n, h2⟩, h3⟩ => ⟨by rw [h1, h3.2 rfl], by rw [h2]; exact below_drewN (Below.refl _ _) n⟩
theorem vequal_f (vs ts : List R) (a b : Option Addr) (c d : Nat) (w : World) (hr : RV w a vs) (hs : RV w b ts) (hl1 : vs.length ≤ 100000) (hl2 : ts.length ≤ 100000) (hne : vs ≠ ts) :
    Calls Try.prog 54 #[.slice a vs.length c, .slice b ts.length d] w fun e w' => e = .returned (.bool false) ∧ Below w.heap.size w w' :=
  (vequal_any vs ts a b c d w hr hs hl1 hl2).mono fun _ _ ⟨bv, h1, ⟨n, h2⟩, h3⟩ => ⟨by rw [h1]; cases bv with | false => rfl | true => exact absurd (h3.1 rfl) hne, by rw [h2]; exact below_drewN (Below.refl _ _) n⟩
theorem sequal_t (ss : List (List Int)) (a b : Option Addr) (c d : Nat) (w : World) (hr : RR w a ss) (hs : RR w b ss) (hl1 : ss.length ≤ 100000) (hi1 : ∀ l ∈ ss, l.length ≤ 100000) :
    Calls Try.prog 49 #[.slice a ss.length c, .slice b ss.length d, .func (.func 55) #[] #[]] w fun e w' => e = .returned (.bool true) ∧ Below w.heap.size w w' :=
  (sequal_any ss ss a b c d w hr hs hl1 hl1 hi1 hi1).mono fun _ _ ⟨bv, h1, ⟨n, h2⟩, h3⟩ => ⟨by rw [h1, h3.2 rfl], by rw [h2]; exact below_drewN (Below.refl _ _) n⟩
theorem sequal_f (ss tt : List (List Int)) (a b : Option Addr) (c d : Nat) (w : World) (hr : RR w a ss) (hs : RR w b tt) (hl1 : ss.length ≤ 100000) (hl2 : tt.length ≤ 100000) (hi1 : ∀ l ∈ ss, l.length ≤ 100000) (hi2 : ∀ l ∈ tt, l.length ≤ 100000) (hne : ss ≠ tt) :
    Calls Try.prog 49 #[.slice a ss.length c, .slice b tt.length d, .func (.func 55) #[] #[]] w fun e w' => e = .returned (.bool false) ∧ Below w.heap.size w w' :=
  (sequal_any ss tt a b c d w hr hs hl1 hl2 hi1 hi2).mono fun _ _ ⟨bv, h1, ⟨n, h2⟩, h3⟩ => ⟨by rw [h1]; cases bv with | false => rfl | true => exact absurd (h3.1 rfl) hne, by rw [h2]; exact below_drewN (Below.refl _ _) n⟩
set_option maxRecDepth 100000 in
set_option maxHeartbeats 8000000 in
theorem equal_S {v1 v2 : Value} {s1 s2 : S} {w : World} (h1 : Rs w v1 s1) (h2 : Rs w v2 s2) (hl1 : s1.vs.length ≤ 100000) (hl2 : s2.vs.length ≤ 100000) (hl3 : s1.ss.length ≤ 100000) (hl4 : s2.ss.length ≤ 100000) (hi1 : ∀ l ∈ s1.ss, l.length ≤ 100000) (hi2 : ∀ l ∈ s2.ss, l.length ≤ 100000) :
    Calls Try.prog 20 #[v1, v2] w fun e w' => ∃ bv, e = .returned (.bool bv) ∧ Below w.heap.size w w' ∧ (bv = true ↔ s1 = s2) := by
  obtain ⟨a, c, b, d, rfl, e1, e2, -⟩ := h1
  obtain ⟨a2, c2, b2, d2, rfl, f1, f2, -⟩ := h2
  obtain ⟨r, vs, ss⟩ := s1
  obtain ⟨r2, ts, tt⟩ := s2
  dsimp only at *
  by_cases hr : r = r2
  · subst hr
    by_cases hv : vs = ts
    · subst hv
      have cV := fun w' (h : Below w.heap.size w w') => vequal_t vs a a2 c c2 w' (e1.keep h) (f1.keep h) hl1
      by_cases hs : ss = tt
      · subst hs
        have cS := fun w' (h : Below w.heap.size w w') => sequal_t ss b b2 d d2 w' (e2.keep h) (f2.keep h) hl3 hi1
        clear e1 e2 f1 f2 hi1 hi2
        go_enter Try.func20, Try.ntmps20
        go_upto_region 1 with fail
        go_name_world W hW
        obtain ⟨B0, -, B1, -, u⟩ := boxes2 w _ _ _ _ _ _ _ _ W hW
        have HU := hide u
        have HB := hide (And.intro B0 B1)
        have x0 := B0.c0
        have x1 := B0.c1
        have x2 := B1.c0
        have x3 := B1.c1
        clear hW B0 B1 u
        go_wp2_with (first | (go_at_call 54; refine (cV _ HU.out).mono ?_; rintro e wA ⟨rfl, hA⟩; have HA := hide hA; have y0 := (HB.out.1.keep hA).c2; have y1 := (HB.out.2.keep hA).c2; clear hA cV x0 x1 x2 x3) | (go_at_call 49; refine (cS _ (HU.out.trans (HA.out.mono HU.out.size))).mono ?_; rintro e wB ⟨rfl, hB⟩; replace hB := hide hB; clear cS))
        go_ret
        exact ⟨true, by simp, HU.out.trans ((HA.out.trans (hB.out.mono HA.out.size)).mono HU.out.size), by simp⟩
      · have cS := fun w' (h : Below w.heap.size w w') => sequal_f ss tt b b2 d d2 w' (e2.keep h) (f2.keep h) hl3 hl4 hi1 hi2 hs
        clear e1 e2 f1 f2 hi1 hi2
        go_enter Try.func20, Try.ntmps20
        go_upto_region 1 with fail
        go_name_world W hW
        obtain ⟨B0, -, B1, -, u⟩ := boxes2 w _ _ _ _ _ _ _ _ W hW
        have HU := hide u
        have HB := hide (And.intro B0 B1)
        have x0 := B0.c0
        have x1 := B0.c1
        have x2 := B1.c0
        have x3 := B1.c1
        clear hW B0 B1 u
        go_wp2_with (first | (go_at_call 54; refine (cV _ HU.out).mono ?_; rintro e wA ⟨rfl, hA⟩; have HA := hide hA; have y0 := (HB.out.1.keep hA).c2; have y1 := (HB.out.2.keep hA).c2; clear hA cV x0 x1 x2 x3) | (go_at_call 49; refine (cS _ (HU.out.trans (HA.out.mono HU.out.size))).mono ?_; rintro e wB ⟨rfl, hB⟩; replace hB := hide hB; clear cS))
        go_ret
        exact ⟨false, by simp, HU.out.trans ((HA.out.trans (hB.out.mono HA.out.size)).mono HU.out.size), by simp; exact hs⟩
    · have cV := fun w' (h : Below w.heap.size w w') => vequal_f vs ts a a2 c c2 w' (e1.keep h) (f1.keep h) hl1 hl2 hv
      clear e1 e2 f1 f2 hi1 hi2
      go_enter Try.func20, Try.ntmps20
      go_upto_region 1 with fail
      go_name_world W hW
      obtain ⟨B0, -, B1, -, u⟩ := boxes2 w _ _ _ _ _ _ _ _ W hW
      have HU := hide u
      have x0 := B0.c0
      have x1 := B0.c1
      have x2 := B1.c0
      have x3 := B1.c1
      clear hW B0 B1 u
      go_wp2_with (go_at_call 54; refine (cV _ HU.out).mono ?_; rintro e wA ⟨rfl, hA⟩; replace hA := hide hA; clear cV x0 x1 x2 x3)
      go_ret
      exact ⟨false, by simp, HU.out.trans (hA.out.mono HU.out.size), by simp; exact fun t => absurd t hv⟩
  · have hb : (r == r2) = false := by simp [hr]
    go_enter Try.func20, Try.ntmps20
    go_upto_region 1 with fail
    go_name_world W hW
    obtain ⟨B0, -, B1, -, u⟩ := boxes2 w _ _ _ _ _ _ _ _ W hW
    have HU := hide u
    have x0 := B0.c0
    have x2 := B1.c0
    clear hW B0 B1 u
    go_wp2
    go_ret
    exact ⟨false, by simp, HU.out, by simp; exact fun t => absurd t hr⟩
end Go.Proofs.Ytmhicllhjiglkaa
namespace Go.Proofs.Ytmhicllhjiglkaa
open Go.RowKit
/-- has the other one all that it has? -/
def withinVS (x y : VS) : Bool := if x.r = false then true else y.r && (allV x.us y.us && allS x.ss y.ss)
set_option maxRecDepth 100000 in
set_option maxHeartbeats 8000000 in
theorem within_S0 (a b a2 b2 : Option Addr) (c d c2 d2 : Nat) (r r2 : Bool) (us ts : List V) (ss tt : List (List Int)) (w : World) (e1 : RV w a (us.map V.raw)) (e2 : RR w b ss) (f1 : RV w a2 (ts.map V.raw)) (f2 : RR w b2 tt) (hg : ∀ u ∈ us, u.p &&& 3 = u.p) (hg2 : ∀ u ∈ ts, u.p &&& 3 = u.p) (hl1 : us.length ≤ 100000) (hl3 : ss.length ≤ 100000) (hi1 : ∀ l ∈ ss, l.length ≤ 100000) :
    Calls Try.prog 18 #[.agg #[.bool r, .slice a us.length c, .slice b ss.length d], .agg #[.bool r2, .slice a2 ts.length c2, .slice b2 tt.length d2]] w fun e w' => e = .returned (.bool (withinVS ⟨r, us, ss⟩ ⟨r2, ts, tt⟩)) ∧ Below w.heap.size w w' := by
  have cV := fun w' (h : Below w.heap.size w w') => vwithin_any us ts a a2 c c2 w' (e1.keep h) (f1.keep h) hl1 hg hg2
  have cS := fun w' (h : Below w.heap.size w w') => swithin_S ss tt b b2 d d2 w' (e2.keep h) (f2.keep h) hl3 hi1
  clear e1 e2 f1 f2 hi1 hg hg2
  cases r with
  | false =>
    rw [show withinVS ⟨false, us, ss⟩ ⟨r2, ts, tt⟩ = true from rfl]
    clear cV cS
    go_enter Try.func18, Try.ntmps18
    go_upto_region 1 with fail
    go_name_world W hW
    obtain ⟨B0, -, B1, -, u⟩ := boxes2 w _ _ _ _ _ _ _ _ W hW
    have HU := hide u
    have HB := hide (And.intro B0 B1)
    have x0 := B0.c0
    have x1 := B0.c1
    have x2 := B1.c0
    have x3 := B1.c1
    clear hW B0 B1 u
    go_wp2
    go_ret
    exact ⟨by simp, HU.out⟩
  | true =>
    cases r2 with
    | false =>
      rw [show withinVS ⟨true, us, ss⟩ ⟨false, ts, tt⟩ = false from rfl]
      clear cV cS
      go_enter Try.func18, Try.ntmps18
      go_upto_region 1 with fail
      go_name_world W hW
      obtain ⟨B0, -, B1, -, u⟩ := boxes2 w _ _ _ _ _ _ _ _ W hW
      have HU := hide u
      have HB := hide (And.intro B0 B1)
      have x0 := B0.c0
      have x1 := B0.c1
      have x2 := B1.c0
      have x3 := B1.c1
      clear hW B0 B1 u
      go_wp2
      go_ret
      exact ⟨by simp, HU.out⟩
    | true =>
      rw [show withinVS ⟨true, us, ss⟩ ⟨true, ts, tt⟩ = (allV us ts && allS ss tt) from rfl]
      generalize allV us ts = bv at *
      generalize allS ss tt = bs at *
      cases bv with
      | false =>
        clear cS
        go_enter Try.func18, Try.ntmps18
        go_upto_region 1 with fail
        go_name_world W hW
        obtain ⟨B0, -, B1, -, u⟩ := boxes2 w _ _ _ _ _ _ _ _ W hW
        have HU := hide u
        have HB := hide (And.intro B0 B1)
        have x0 := B0.c0
        have x1 := B0.c1
        have x2 := B1.c0
        have x3 := B1.c1
        clear hW B0 B1 u
        go_wp2_with (go_at_call 47; refine (cV _ HU.out).mono ?_; rintro e wA ⟨rfl, hA⟩; replace hA := hide hA; clear cV x0 x1 x2 x3)
        go_ret
        exact ⟨by simp, HU.out.trans (hA.out.mono HU.out.size)⟩
      | true =>
        go_enter Try.func18, Try.ntmps18
        go_upto_region 1 with fail
        go_name_world W hW
        obtain ⟨B0, -, B1, -, u⟩ := boxes2 w _ _ _ _ _ _ _ _ W hW
        have HU := hide u
        have HB := hide (And.intro B0 B1)
        have x0 := B0.c0
        have x1 := B0.c1
        have x2 := B1.c0
        have x3 := B1.c1
        clear hW B0 B1 u
        go_wp2_with (first | (go_at_call 47; refine (cV _ HU.out).mono ?_; rintro e wA ⟨rfl, hA⟩; have HA := hide hA; have y0 := (HB.out.1.keep hA).c2; have y1 := (HB.out.2.keep hA).c2; clear hA cV x0 x1 x2 x3) | (go_at_call 49; refine (cS _ (HU.out.trans (HA.out.mono HU.out.size))).mono ?_; rintro e wB ⟨rfl, hB⟩; replace hB := hide hB; clear cS))
        go_ret
        exact ⟨by simp, HU.out.trans ((HA.out.trans (hB.out.mono HA.out.size)).mono HU.out.size)⟩
theorem within_S {v1 v2 : Value} {x y : VS} {n m : Nat} {w : World} (h1 : Rs w v1 x.raw) (h2 : Rs w v2 y.raw) (k1 : VOk n x) (k2 : VOk m y) (hn : n ≤ 5000) :
    Calls Try.prog 18 #[v1, v2] w fun e w' => e = .returned (.bool (withinVS x y)) ∧ Below w.heap.size w w' := by
  obtain ⟨a, c, b, d, rfl, e1, e2, -⟩ := h1
  obtain ⟨a2, c2, b2, d2, rfl, f1, f2, -⟩ := h2
  obtain ⟨r, us, ss⟩ := x
  obtain ⟨r2, ts, tt⟩ := y
  have i1 := k1.len
  have i3 := k1.le
  dsimp only [VS.raw] at *
  have t := within_S0 a b a2 b2 c d c2 d2 r r2 us ts ss tt w e1 e2 f1 f2 (fun u hu => (k1.ok u hu).p3) (fun u hu => (k2.ok u hu).p3) (by omega) (by omega) (fun l hl => by have := (k1.up l hl).2; omega)
  rw [List.length_map, List.length_map]
  exact t
/-- two that are the same are Equal -/
theorem equal_same {v1 v2 : Value} {x : VS} {n : Nat} {w : World} (h1 : Rs w v1 x.raw) (h2 : Rs w v2 x.raw) (k1 : VOk n x) (hn : n ≤ 5000) :
    Calls Try.prog 20 #[v1, v2] w fun e w' => e = .returned (.bool true) ∧ Below w.heap.size w w' := by
  have i1 := k1.len
  have i3 := k1.le
  have e : x.raw.vs.length = x.us.length := by unfold VS.raw; rw [List.length_map]
  have e2 : x.raw.ss = x.ss := rfl
  have hi : ∀ l ∈ x.raw.ss, l.length ≤ 100000 := fun l hl => by have := (k1.up l hl).2; omega
  exact (equal_S h1 h2 (by omega) (by omega) (by rw [e2]; omega) (by rw [e2]; omega) hi hi).mono fun _ _ ⟨bv, h3, h4, h5⟩ => ⟨by rw [h3, h5.2 rfl], h4⟩
/-- sets that rise: what is in either -/
theorem uni_mem : ∀ (l m : List Int) (y : Int), y ∈ uniL l m ↔ y ∈ l ∨ y ∈ m := by
  intro l m
  induction l, m using uniL.induct with
  | case1 ys => intro y; simp [uniL]
  | case2 x s => intro y; simp [uniL]
  | case3 x s y t h ih => intro z; rw [uniL, if_pos h, List.mem_cons, ih z]; simp only [List.mem_cons, or_assoc]
  | case4 x s y t h h2 ih =>
    intro z
    rw [uniL, if_neg h, if_pos h2, List.mem_cons, ih z]
    simp only [List.mem_cons]
    constructor
    · rintro (e | (e | e) | e)
      · exact .inr (.inl e)
      · exact .inl (.inl e)
      · exact .inl (.inr e)
      · exact .inr (.inr e)
    · rintro ((e | e) | e | e)
      · exact .inr (.inl (.inl e))
      · exact .inr (.inl (.inr e))
      · exact .inl e
      · exact .inr (.inr e)
  | case5 x s y t h h2 ih =>
    intro z
    have e : x = y := by omega
    subst e
    rw [uniL, if_neg h, if_neg h2, List.mem_cons, ih z]
    simp only [List.mem_cons]
    constructor
    · rintro (e | e | e)
      · exact .inl (.inl e)
      · exact .inl (.inr e)
      · exact .inr (.inr e)
    · rintro ((e | e) | e | e)
      · exact .inl e
      · exact .inr (.inl e)
      · exact .inl e
      · exact .inr (.inr e)
theorem uni_up : ∀ (l m : List Int), UpP l → UpP m → UpP (uniL l m) := by
  intro l m
  induction l, m using uniL.induct with
  | case1 ys => intro _ h; simpa [uniL] using h
  | case2 x s => intro h _; simpa [uniL] using h
  | case3 x s y t h ih =>
    intro h1 h2
    have a := List.pairwise_cons.1 h1
    have b := List.pairwise_cons.1 h2
    rw [uniL, if_pos h]
    refine List.pairwise_cons.2 ⟨fun z hz => ?_, ih a.2 h2⟩
    rcases (uni_mem _ _ z).1 hz with e | e
    · exact a.1 z e
    · rcases List.mem_cons.1 e with e | e
      · omega
      · have := b.1 z e; omega
  | case4 x s y t h h3 ih =>
    intro h1 h2
    have a := List.pairwise_cons.1 h1
    have b := List.pairwise_cons.1 h2
    rw [uniL, if_neg h, if_pos h3]
    refine List.pairwise_cons.2 ⟨fun z hz => ?_, ih h1 b.2⟩
    rcases (uni_mem _ _ z).1 hz with e | e
    · rcases List.mem_cons.1 e with e | e
      · omega
      · have := a.1 z e; omega
    · exact b.1 z e
  | case5 x s y t h h3 ih =>
    intro h1 h2
    have a := List.pairwise_cons.1 h1
    have b := List.pairwise_cons.1 h2
    rw [uniL, if_neg h, if_neg h3]
    refine List.pairwise_cons.2 ⟨fun z hz => ?_, ih a.2 b.2⟩
    rcases (uni_mem _ _ z).1 hz with e | e
    · exact a.1 z e
    · have := b.1 z e; omega
theorem uni_len : ∀ (l m : List Int), (uniL l m).length ≤ l.length + m.length := by
  intro l m
  induction l, m using uniL.induct with
  | case1 ys => simp [uniL]
  | case2 x s => simp [uniL]
  | case3 x s y t h ih => rw [uniL, if_pos h]; simp at *; omega
  | case4 x s y t h h2 ih => rw [uniL, if_neg h, if_pos h2]; simp at *; omega
  | case5 x s y t h h2 ih => rw [uniL, if_neg h, if_neg h2]; simp at *; omega
theorem uni_comm {l m : List Int} (h1 : UpP l) (h2 : UpP m) : uniL l m = uniL m l := (uni_up _ _ h1 h2).ext (uni_up _ _ h2 h1) (fun y => by rw [uni_mem, uni_mem, or_comm])
theorem uni_assoc {l m k : List Int} (h1 : UpP l) (h2 : UpP m) (h3 : UpP k) : uniL (uniL l m) k = uniL l (uniL m k) := (uni_up _ _ (uni_up _ _ h1 h2) h3).ext (uni_up _ _ h1 (uni_up _ _ h2 h3)) (fun y => by simp only [uni_mem, or_assoc])
theorem uni_idem {l : List Int} (h1 : UpP l) : uniL l l = l := (uni_up _ _ h1 h1).ext h1 (fun y => by rw [uni_mem, or_self])
/-- within: all of the one is in the other -/
theorem wi_iff : ∀ (l m : List Int), UpP l → UpP m → (wiL l m = true ↔ ∀ y ∈ l, y ∈ m) := by
  intro l
  induction l with
  | nil => intro m _ _; simp [wiL]
  | cons x s ih =>
    intro m h1 h2
    have a := List.pairwise_cons.1 h1
    have hd : ∀ y, x ≤ y → (y ∈ m ↔ y ∈ m.dropWhile (fun y => decide (y < x))) := fun y hy => by
      have e := List.takeWhile_append_dropWhile (p := fun y => decide (y < x)) (l := m)
      constructor
      · intro hm
        rw [← e] at hm
        rcases List.mem_append.1 hm with t | t
        · have := List.all_eq_true.1 (List.all_takeWhile (p := fun y => decide (y < x)) (l := m)) y t; simp at this; omega
        · exact t
      · intro hm; rw [← e]; exact List.mem_append.2 (.inr hm)
    have hu : UpP (m.dropWhile (fun y => decide (y < x))) := h2.sublist (List.dropWhile_sublist _)
    have hf : ∀ z r, m.dropWhile (fun y => decide (y < x)) = z :: r → x ≤ z := fun z r e => by
      have := List.head?_dropWhile_not (fun y => decide (y < x)) m
      rw [e] at this
      simpa using this
    rw [wiL]
    split
    · rename_i e
      rw [e] at hd
      simp only [Bool.false_eq_true, false_iff]
      intro t
      have := (hd x (Int.le_refl _)).1 (t x (by simp))
      cases this
    · rename_i z r e
      have hz := hf z r e
      rw [e] at hd hu
      by_cases hzx : z = x
      · subst hzx
        rw [if_pos rfl, ih _ a.2 hu]
        constructor
        · intro t y hy
          rcases List.mem_cons.1 hy with rfl | hy
          · exact (hd _ (Int.le_refl _)).2 (by simp)
          · exact (hd y (by have := a.1 y hy; omega)).2 (t y hy)
        · intro t y hy
          exact (hd y (by have := a.1 y hy; omega)).1 (t y (by simp [hy]))
      · rw [if_neg hzx]
        simp only [Bool.false_eq_true, false_iff]
        intro t
        have t2 := (hd x (Int.le_refl _)).1 (t x (by simp))
        have b := List.pairwise_cons.1 hu
        rcases List.mem_cons.1 t2 with e | t2
        · exact hzx e.symm
        · have := b.1 x t2; omega
end Go.Proofs.Ytmhicllhjiglkaa
namespace Go.Proofs.Ytmhicllhjiglkaa
open Go.RowKit
theorem bv_or3 : ∀ x y : BitVec 3, x ≠ 0 → x ||| y ≠ 0 := by decide
theorem bv_and3 : ∀ x y : BitVec 3, x &&& 3 = x → y &&& 3 = y → (x ||| y) &&& 3 = x ||| y := by decide
theorem join_ok (x y : V) (hx : x.ok) (hy : y.ok) : (joinV x y).ok := by
  have a := hx.sp
  have b := hy.sp
  have c := hx.i
  have d := hx.n
  have e := hy.n
  unfold Sp at *
  unfold i64 at *
  dsimp only at a b
  refine ⟨bv_or3 _ _ hx.s, bv_or3 _ _ hx.p, bv_and3 _ _ hx.p3 hy.p3, ?_, ?_, ?_⟩
  · unfold joinV joinI joinN
    dsimp only
    cases hk : x.k <;> cases hk2 : y.k <;> by_cases hn : x.n = y.n <;> simp_all
  · unfold Sp joinV
    dsimp only
    omega
  · unfold i64 joinV joinN
    dsimp only
    split <;> omega
theorem zip_comm {α : Type} (f : α → α → α) : ∀ (a b : List α), (∀ x ∈ a, ∀ y ∈ b, f x y = f y x) → List.zipWith f a b = List.zipWith f b a := by
  intro a
  induction a with
  | nil => intro b _; cases b <;> rfl
  | cons x s ih =>
    intro b h
    cases b with
    | nil => rfl
    | cons y t => rw [List.zipWith_cons_cons, List.zipWith_cons_cons, h x (by simp) y (by simp), ih t (fun u hu v hv => h u (by simp [hu]) v (by simp [hv]))]
theorem zip_assoc {α : Type} (f : α → α → α) : ∀ (a b c : List α), (∀ x ∈ a, ∀ y ∈ b, ∀ z ∈ c, f (f x y) z = f x (f y z)) → List.zipWith f (List.zipWith f a b) c = List.zipWith f a (List.zipWith f b c) := by
  intro a
  induction a with
  | nil => intro b c _; rfl
  | cons x s ih =>
    intro b c h
    cases b with
    | nil => rfl
    | cons y t =>
      cases c with
      | nil => rfl
      | cons z u =>
        simp only [List.zipWith_cons_cons]
        rw [h x (by simp) y (by simp) z (by simp), ih t u (fun p hp q hq r hr => h p (by simp [hp]) q (by simp [hq]) r (by simp [hr]))]
theorem zip_idem {α : Type} (f : α → α → α) : ∀ (a : List α), (∀ x ∈ a, f x x = x) → List.zipWith f a a = a := by
  intro a
  induction a with
  | nil => intro _; rfl
  | cons x s ih => intro h; rw [List.zipWith_cons_cons, h x (by simp), ih (fun y hy => h y (by simp [hy]))]
theorem zip_mem {α : Type} {P : α → Prop} (f : α → α → α) : ∀ (a b : List α), (∀ x ∈ a, ∀ y ∈ b, P (f x y)) → ∀ z ∈ List.zipWith f a b, P z := by
  intro a
  induction a with
  | nil => intro b _ z hz; cases hz
  | cons x s ih =>
    intro b h z hz
    cases b with
    | nil => cases hz
    | cons y t =>
      rw [List.zipWith_cons_cons] at hz
      rcases List.mem_cons.1 hz with rfl | hz
      · exact h x (by simp) y (by simp)
      · exact ih t (fun u hu v hv => h u (by simp [hu]) v (by simp [hv])) z hz
theorem VOk.mono {n m : Nat} {x : VS} (h : VOk n x) (hm : n ≤ m) : VOk m x := ⟨h.len, h.le, h.ok, fun l hl => ⟨(h.up l hl).1, Nat.le_trans (h.up l hl).2 hm⟩, h.nr⟩
theorem tog_ok {op : V → V → V} (ho : ∀ x y, x.ok → y.ok → (op x y).ok) {n m : Nat} {x y : VS} (hx : VOk n x) (hy : VOk m y) : VOk (n + m) (togV op x y) := by
  unfold togV
  split
  · exact hy.mono (by omega)
  · split
    · exact hx.mono (by omega)
    · refine ⟨?_, ?_, ?_, ?_, fun e => by cases e⟩
      · dsimp only; rw [List.length_zipWith, List.length_zipWith, hx.len, hy.len]
      · dsimp only; rw [List.length_zipWith]; have := hx.le; omega
      · exact zip_mem (P := V.ok) op _ _ (fun u hu v hv => ho u v (hx.ok u hu) (hy.ok v hv))
      · exact zip_mem (P := fun l => UpP l ∧ l.length ≤ n + m) uniL _ _ (fun l hl k hk => ⟨uni_up _ _ (hx.up l hl).1 (hy.up k hk).1, by have := uni_len l k; have := (hx.up l hl).2; have := (hy.up k hk).2; omega⟩)
theorem VOk.none {n : Nat} {x : VS} (h : VOk n x) (hr : x.r = false) : x = ⟨false, [], []⟩ := by
  obtain ⟨r, us, ss⟩ := x
  have a := h.nr hr
  have b := h.len
  dsimp only at *
  subst hr a
  have : ss = [] := List.eq_nil_of_length_eq_zero (by simpa using b)
  rw [this]
theorem tog_comm {n m : Nat} {x y : VS} (hx : VOk n x) (hy : VOk m y) : togV joinV x y = togV joinV y x := by
  unfold togV
  cases h1 : x.r <;> cases h2 : y.r
  · simp; rw [hx.none h1, hy.none h2]
  · simp
  · simp
  · simp
    exact ⟨zip_comm joinV _ _ (fun u _ v _ => join_comm u v), zip_comm uniL _ _ (fun l hl k hk => uni_comm (hx.up l hl).1 (hy.up k hk).1)⟩
theorem tog_assoc {n m k : Nat} {x y z : VS} (hx : VOk n x) (hy : VOk m y) (hz : VOk k z) : togV joinV (togV joinV x y) z = togV joinV x (togV joinV y z) := by
  unfold togV
  cases h1 : x.r <;> cases h2 : y.r <;> cases h3 : z.r <;> simp [h1, h2, h3]
  exact ⟨zip_assoc joinV _ _ _ (fun u _ v _ w _ => join_assoc u v w), zip_assoc uniL _ _ _ (fun l hl p hp q hq => uni_assoc (hx.up l hl).1 (hy.up p hp).1 (hz.up q hq).1)⟩
theorem tog_idem {n : Nat} {x : VS} (hx : VOk n x) : togV joinV x x = x := by
  have e1 := zip_idem joinV x.us (fun u hu => join_idem u (hx.ok u hu))
  have e2 := zip_idem uniL x.ss (fun l hl => uni_idem (hx.up l hl).1)
  obtain ⟨r, us, ss⟩ := x
  dsimp only at e1 e2
  unfold togV
  dsimp only
  cases r
  · rfl
  · rw [e1, e2]; rfl
theorem withinV_refl (x : V) (h : x.ok) : withinV x x = true := by
  have := (join_in x x).1
  rw [join_idem x h] at this
  exact this
theorem allV_refl : ∀ (a : List V), (∀ u ∈ a, u.ok) → allV a a = true := by
  intro a
  induction a with
  | nil => intro _; rfl
  | cons x s ih => intro h; rw [allV, withinV_refl x (h x (by simp)), ih (fun u hu => h u (by simp [hu]))]; rfl
theorem allS_refl : ∀ (a : List (List Int)), (∀ l ∈ a, UpP l) → allS a a = true := by
  intro a
  induction a with
  | nil => intro _; rfl
  | cons x s ih => intro h; rw [allS, (wi_iff x x (h x (by simp)) (h x (by simp))).2 (fun y hy => hy), ih (fun u hu => h u (by simp [hu]))]; rfl
theorem allV_join : ∀ (a b : List V), a.length = b.length → allV a (List.zipWith joinV a b) = true ∧ allV b (List.zipWith joinV a b) = true := by
  intro a
  induction a with
  | nil => intro b h; cases b with | nil => exact ⟨rfl, rfl⟩ | cons y t => simp at h
  | cons x s ih => intro b h; cases b with
    | nil => simp at h
    | cons y t =>
      have i := ih t (by simpa using h)
      have j := join_in x y
      simp only [List.zipWith_cons_cons, allV, i, j]
      exact ⟨rfl, rfl⟩
theorem allS_uni : ∀ (a b : List (List Int)), a.length = b.length → (∀ l ∈ a, UpP l) → (∀ l ∈ b, UpP l) → allS a (List.zipWith uniL a b) = true ∧ allS b (List.zipWith uniL a b) = true := by
  intro a
  induction a with
  | nil => intro b h _ _; cases b with | nil => exact ⟨rfl, rfl⟩ | cons y t => simp at h
  | cons x s ih => intro b h h1 h2; cases b with
    | nil => simp at h
    | cons y t =>
      have i := ih t (by simpa using h) (fun l hl => h1 l (by simp [hl])) (fun l hl => h2 l (by simp [hl]))
      have u := uni_up x y (h1 x (by simp)) (h2 y (by simp))
      have j1 := (wi_iff x (uniL x y) (h1 x (by simp)) u).2 (fun z hz => (uni_mem x y z).2 (.inl hz))
      have j2 := (wi_iff y (uniL x y) (h2 y (by simp)) u).2 (fun z hz => (uni_mem x y z).2 (.inr hz))
      simp only [List.zipWith_cons_cons, allS, i, j1, j2]
      exact ⟨rfl, rfl⟩
theorem allV_lub : ∀ (a b c : List V), allV a c = true → allV b c = true → allV (List.zipWith joinV a b) c = true := by
  intro a
  induction a with
  | nil => intro b c h1 h2; cases c with | nil => rfl | cons z u => cases h1
  | cons x s ih => intro b c h1 h2; cases c with
    | nil => cases h1
    | cons z u => cases b with
      | nil => cases h2
      | cons y t =>
        simp only [allV, Bool.and_eq_true] at h1 h2
        simp only [List.zipWith_cons_cons, allV, join_lub x y z h1.1 h2.1, ih t u h1.2 h2.2, Bool.and_self]
theorem allS_lub : ∀ (a b c : List (List Int)), (∀ l ∈ a, UpP l) → (∀ l ∈ b, UpP l) → (∀ l ∈ c, UpP l) → allS a c = true → allS b c = true → allS (List.zipWith uniL a b) c = true := by
  intro a
  induction a with
  | nil => intro b c _ _ _ h1 h2; cases c with | nil => rfl | cons z u => cases h1
  | cons x s ih => intro b c g1 g2 g3 h1 h2; cases c with
    | nil => cases h1
    | cons z u => cases b with
      | nil => cases h2
      | cons y t =>
        simp only [allS, Bool.and_eq_true] at h1 h2
        have a1 := (wi_iff x z (g1 x (by simp)) (g3 z (by simp))).1 h1.1
        have a2 := (wi_iff y z (g2 y (by simp)) (g3 z (by simp))).1 h2.1
        have a3 := (wi_iff (uniL x y) z (uni_up _ _ (g1 x (by simp)) (g2 y (by simp))) (g3 z (by simp))).2 (fun w hw => by rcases (uni_mem x y w).1 hw with t | t; exact a1 w t; exact a2 w t)
        simp only [List.zipWith_cons_cons, allS, a3, ih t u (fun l hl => g1 l (by simp [hl])) (fun l hl => g2 l (by simp [hl])) (fun l hl => g3 l (by simp [hl])) h1.2 h2.2, Bool.and_self]
theorem within_refl {n : Nat} {x : VS} (hx : VOk n x) : withinVS x x = true := by
  unfold withinVS
  cases h : x.r
  · simp
  · simp [allV_refl _ hx.ok, allS_refl _ (fun l hl => (hx.up l hl).1)]
theorem within_join {n m : Nat} {x y : VS} (hx : VOk n x) (hy : VOk m y) (hl : x.us.length = y.us.length) : withinVS x (togV joinV x y) = true ∧ withinVS y (togV joinV x y) = true := by
  cases h1 : x.r
  · have e : togV joinV x y = y := by unfold togV; simp [h1]
    rw [e]
    exact ⟨by unfold withinVS; simp [h1], within_refl hy⟩
  · cases h2 : y.r
    · have e : togV joinV x y = x := by unfold togV; simp [h1, h2]
      rw [e]
      exact ⟨within_refl hx, by unfold withinVS; simp [h2]⟩
    · have e : togV joinV x y = ⟨true, List.zipWith joinV x.us y.us, List.zipWith uniL x.ss y.ss⟩ := by unfold togV; simp [h1, h2]
      rw [e]
      have a := allV_join x.us y.us hl
      have b := allS_uni x.ss y.ss (by rw [hx.len, hy.len, hl]) (fun l hl => (hx.up l hl).1) (fun l hl => (hy.up l hl).1)
      unfold withinVS
      simp [h1, h2, a, b]
theorem within_lub {n m k : Nat} {x y z : VS} (hx : VOk n x) (hy : VOk m y) (hz : VOk k z) (h1 : withinVS x z = true) (h2 : withinVS y z = true) : withinVS (togV joinV x y) z = true := by
  cases hr : x.r
  · have e : togV joinV x y = y := by unfold togV; simp [hr]
    rw [e]; exact h2
  · cases hr2 : y.r
    · have e : togV joinV x y = x := by unfold togV; simp [hr, hr2]
      rw [e]; exact h1
    · have e : togV joinV x y = ⟨true, List.zipWith joinV x.us y.us, List.zipWith uniL x.ss y.ss⟩ := by unfold togV; simp [hr, hr2]
      rw [e]
      unfold withinVS at *
      simp [hr] at h1
      simp [hr2] at h2
      simp [h1.1, allV_lub _ _ _ h1.2.1 h2.2.1, allS_lub _ _ _ (fun l hl => (hx.up l hl).1) (fun l hl => (hy.up l hl).1) (fun l hl => (hz.up l hl).1) h1.2.2 h2.2.2]
end Go.Proofs.Ytmhicllhjiglkaa
