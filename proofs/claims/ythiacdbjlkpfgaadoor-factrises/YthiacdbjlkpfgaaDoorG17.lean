import Derived.Test.YthiacdbjlkpfgaaDoorG02
import Derived.Test.YthiacdbjlkpfgaaDoorG16
import Derived.Test.YthiacdbjlkpfgaaDoorG05
import Derived.Test.YthiacdbjlkpfgaaDoorG13
namespace Go.Proofs.YthiacdbjlkpfgaaDoor
open Go.RowKit
set_option maxRecDepth 100000 in
set_option maxHeartbeats 16000000 in
theorem within_V (x y : V) (w : World) (hx : x.p &&& 3 = x.p) (hy : y.p &&& 3 = y.p) : Calls Tryd.prog 15 #[.agg #[.int .i64 (up x.s), .bool x.k, .int .i64 x.n, .int .i64 x.lo, .int .i64 x.hi, .int .i64 (up x.p)], .agg #[.int .i64 (up y.s), .bool y.k, .int .i64 y.n, .int .i64 y.lo, .int .i64 y.hi, .int .i64 (up y.p)]] w fun e w' => e = .returned (.bool (withinV x y)) ∧ Below w.heap.size w w' := by
  have c1 := fun w => swithinB x.s y.s w
  have c2 := fun w => kwithin_any x.k x.n y.k y.n w
  have c3 := fun w => bel2 (nwithin_any x.lo x.hi y.lo y.hi w)
  have c4 := fun w => pwithinB x.p y.p w hx hy
  have HR : Hid (withinV x y = (withinS x.s y.s && (withinK x.k x.n y.k y.n && (withinR x.lo x.hi y.lo y.hi && withinS x.p y.p)))) := rfl
  generalize withinV x y = r at *
  generalize withinS x.s y.s = t1 at *
  generalize withinK x.k x.n y.k y.n = t2 at *
  generalize withinR x.lo x.hi y.lo y.hi = t3 at *
  generalize withinS x.p y.p = t4 at *
  clear hx hy
  cases t1
  · have x0 : Br ((w.alloc (.cells #[.int .i64 (up x.s), .bool x.k, .int .i64 x.n, .int .i64 x.lo, .int .i64 x.hi, .int .i64 (up x.p)] 33)).alloc (.cells #[.int .i64 (up y.s), .bool y.k, .int .i64 y.n, .int .i64 y.lo, .int .i64 y.hi, .int .i64 (up y.p)] 33)) (w.heap.size) (up x.s) x.k x.n x.lo x.hi (up x.p) := ((Br.new w (up x.s) x.k x.n x.lo x.hi (up x.p) 33)).keep ((Below.refl _ _).alloc (Nat.le_refl _) _)
    have x1 : Br ((w.alloc (.cells #[.int .i64 (up x.s), .bool x.k, .int .i64 x.n, .int .i64 x.lo, .int .i64 x.hi, .int .i64 (up x.p)] 33)).alloc (.cells #[.int .i64 (up y.s), .bool y.k, .int .i64 y.n, .int .i64 y.lo, .int .i64 y.hi, .int .i64 (up y.p)] 33)) (w.heap.size + 1) (up y.s) y.k y.n y.lo y.hi (up y.p) := (by simpa using Br.new (w.alloc (.cells #[.int .i64 (up x.s), .bool x.k, .int .i64 x.n, .int .i64 x.lo, .int .i64 x.hi, .int .i64 (up x.p)] 33)) (up y.s) y.k y.n y.lo y.hi (up y.p) 33 : Br ((w.alloc (.cells #[.int .i64 (up x.s), .bool x.k, .int .i64 x.n, .int .i64 x.lo, .int .i64 x.hi, .int .i64 (up x.p)] 33)).alloc (.cells #[.int .i64 (up y.s), .bool y.k, .int .i64 y.n, .int .i64 y.lo, .int .i64 y.hi, .int .i64 (up y.p)] 33)) (w.heap.size + 1) (up y.s) y.k y.n y.lo y.hi (up y.p))
    have xb : Below w.heap.size w ((w.alloc (.cells #[.int .i64 (up x.s), .bool x.k, .int .i64 x.n, .int .i64 x.lo, .int .i64 x.hi, .int .i64 (up x.p)] 33)).alloc (.cells #[.int .i64 (up y.s), .bool y.k, .int .i64 y.n, .int .i64 y.lo, .int .i64 y.hi, .int .i64 (up y.p)] 33)) := (by repeat (first | exact Below.refl _ _ | (refine Below.drew ?_) | (refine below_drewN ?_ _) | (refine Below.setCell ?_ (by first | omega | (simp; done) | (simp; omega)) _) | (refine Below.alloc ?_ (by first | omega | (simp; done) | (simp; omega)) _) | (refine Below.trans ?_ (Below.mono (by assumption) (by first | omega | (simp; done) | (simp; omega))))))
    go_enter Tryd.func15, Tryd.ntmps15
    go_upto_region 1 with fail
    go_name_world W hW
    rw [hW] at x0 x1 xb
    clear hW
    obtain ⟨N, hN⟩ : ∃ N, N = w.heap.size := ⟨_, rfl⟩
    rw [← hN] at x0 x1 xb ⊢
    have HN : Hid (N = w.heap.size) := hN
    clear hN
    have HA := hide (And.intro x0 (And.intro x1 xb))
    clear x0 x1 xb
    have a0 := HA.out.1.c0
    have a1 := HA.out.1.c1
    have a2 := HA.out.1.c2
    have a3 := HA.out.1.c3
    have a4 := HA.out.1.c4
    have a5 := HA.out.1.c5
    have b0 := HA.out.2.1.c0
    have b1 := HA.out.2.1.c1
    have b2 := HA.out.2.1.c2
    have b3 := HA.out.2.1.c3
    have b4 := HA.out.2.1.c4
    have b5 := HA.out.2.1.c5
    go_wp2_with (first | (go_at_call 45; refine (c1 _).mono ?_; rintro e w1 ⟨rfl, hb1⟩; have HB := hide (And.intro (HA.out.1.keep hb1) (And.intro (HA.out.2.1.keep hb1) (HA.out.2.2.trans (hb1.mono (Nat.le_of_lt HA.out.1.lt))))); clear HA hb1 a0 a1 a2 a3 a4 a5 b0 b1 b2 b3 b4 b5; have HA := HB; clear HB; have a0 := HA.out.1.c0; have a1 := HA.out.1.c1; have a2 := HA.out.1.c2; have a3 := HA.out.1.c3; have a4 := HA.out.1.c4; have a5 := HA.out.1.c5; have b0 := HA.out.2.1.c0; have b1 := HA.out.2.1.c1; have b2 := HA.out.2.1.c2; have b3 := HA.out.2.1.c3; have b4 := HA.out.2.1.c4; have b5 := HA.out.2.1.c5) | (go_at_call 46; refine (c2 _).mono ?_; rintro e w1 ⟨rfl, hb1⟩; have HB := hide (And.intro (HA.out.1.keep hb1) (And.intro (HA.out.2.1.keep hb1) (HA.out.2.2.trans (hb1.mono (Nat.le_of_lt HA.out.1.lt))))); clear HA hb1 a0 a1 a2 a3 a4 a5 b0 b1 b2 b3 b4 b5; have HA := HB; clear HB; have a0 := HA.out.1.c0; have a1 := HA.out.1.c1; have a2 := HA.out.1.c2; have a3 := HA.out.1.c3; have a4 := HA.out.1.c4; have a5 := HA.out.1.c5; have b0 := HA.out.2.1.c0; have b1 := HA.out.2.1.c1; have b2 := HA.out.2.1.c2; have b3 := HA.out.2.1.c3; have b4 := HA.out.2.1.c4; have b5 := HA.out.2.1.c5) | (go_at_call 47; refine (c3 _).mono ?_; rintro e w1 ⟨rfl, hb1⟩; have HB := hide (And.intro (HA.out.1.keep hb1) (And.intro (HA.out.2.1.keep hb1) (HA.out.2.2.trans (hb1.mono (Nat.le_of_lt HA.out.1.lt))))); clear HA hb1 a0 a1 a2 a3 a4 a5 b0 b1 b2 b3 b4 b5; have HA := HB; clear HB; have a0 := HA.out.1.c0; have a1 := HA.out.1.c1; have a2 := HA.out.1.c2; have a3 := HA.out.1.c3; have a4 := HA.out.1.c4; have a5 := HA.out.1.c5; have b0 := HA.out.2.1.c0; have b1 := HA.out.2.1.c1; have b2 := HA.out.2.1.c2; have b3 := HA.out.2.1.c3; have b4 := HA.out.2.1.c4; have b5 := HA.out.2.1.c5) | (go_at_call 48; refine (c4 _).mono ?_; rintro e w1 ⟨rfl, hb1⟩; have HB := hide (And.intro (HA.out.1.keep hb1) (And.intro (HA.out.2.1.keep hb1) (HA.out.2.2.trans (hb1.mono (Nat.le_of_lt HA.out.1.lt))))); clear HA hb1 a0 a1 a2 a3 a4 a5 b0 b1 b2 b3 b4 b5; have HA := HB; clear HB; have a0 := HA.out.1.c0; have a1 := HA.out.1.c1; have a2 := HA.out.1.c2; have a3 := HA.out.1.c3; have a4 := HA.out.1.c4; have a5 := HA.out.1.c5; have b0 := HA.out.2.1.c0; have b1 := HA.out.2.1.c1; have b2 := HA.out.2.1.c2; have b3 := HA.out.2.1.c3; have b4 := HA.out.2.1.c4; have b5 := HA.out.2.1.c5))
    clear c1 c2 c3 c4
    go_ret
    exact ⟨by rw [HR.out]; rfl, by rw [← HN.out]; exact HA.out.2.2⟩
  · cases t2
    · have x0 : Br ((w.alloc (.cells #[.int .i64 (up x.s), .bool x.k, .int .i64 x.n, .int .i64 x.lo, .int .i64 x.hi, .int .i64 (up x.p)] 33)).alloc (.cells #[.int .i64 (up y.s), .bool y.k, .int .i64 y.n, .int .i64 y.lo, .int .i64 y.hi, .int .i64 (up y.p)] 33)) (w.heap.size) (up x.s) x.k x.n x.lo x.hi (up x.p) := ((Br.new w (up x.s) x.k x.n x.lo x.hi (up x.p) 33)).keep ((Below.refl _ _).alloc (Nat.le_refl _) _)
      have x1 : Br ((w.alloc (.cells #[.int .i64 (up x.s), .bool x.k, .int .i64 x.n, .int .i64 x.lo, .int .i64 x.hi, .int .i64 (up x.p)] 33)).alloc (.cells #[.int .i64 (up y.s), .bool y.k, .int .i64 y.n, .int .i64 y.lo, .int .i64 y.hi, .int .i64 (up y.p)] 33)) (w.heap.size + 1) (up y.s) y.k y.n y.lo y.hi (up y.p) := (by simpa using Br.new (w.alloc (.cells #[.int .i64 (up x.s), .bool x.k, .int .i64 x.n, .int .i64 x.lo, .int .i64 x.hi, .int .i64 (up x.p)] 33)) (up y.s) y.k y.n y.lo y.hi (up y.p) 33 : Br ((w.alloc (.cells #[.int .i64 (up x.s), .bool x.k, .int .i64 x.n, .int .i64 x.lo, .int .i64 x.hi, .int .i64 (up x.p)] 33)).alloc (.cells #[.int .i64 (up y.s), .bool y.k, .int .i64 y.n, .int .i64 y.lo, .int .i64 y.hi, .int .i64 (up y.p)] 33)) (w.heap.size + 1) (up y.s) y.k y.n y.lo y.hi (up y.p))
      have xb : Below w.heap.size w ((w.alloc (.cells #[.int .i64 (up x.s), .bool x.k, .int .i64 x.n, .int .i64 x.lo, .int .i64 x.hi, .int .i64 (up x.p)] 33)).alloc (.cells #[.int .i64 (up y.s), .bool y.k, .int .i64 y.n, .int .i64 y.lo, .int .i64 y.hi, .int .i64 (up y.p)] 33)) := (by repeat (first | exact Below.refl _ _ | (refine Below.drew ?_) | (refine below_drewN ?_ _) | (refine Below.setCell ?_ (by first | omega | (simp; done) | (simp; omega)) _) | (refine Below.alloc ?_ (by first | omega | (simp; done) | (simp; omega)) _) | (refine Below.trans ?_ (Below.mono (by assumption) (by first | omega | (simp; done) | (simp; omega))))))
      go_enter Tryd.func15, Tryd.ntmps15
      go_upto_region 1 with fail
      go_name_world W hW
      rw [hW] at x0 x1 xb
      clear hW
      obtain ⟨N, hN⟩ : ∃ N, N = w.heap.size := ⟨_, rfl⟩
      rw [← hN] at x0 x1 xb ⊢
      have HN : Hid (N = w.heap.size) := hN
      clear hN
      have HA := hide (And.intro x0 (And.intro x1 xb))
      clear x0 x1 xb
      have a0 := HA.out.1.c0
      have a1 := HA.out.1.c1
      have a2 := HA.out.1.c2
      have a3 := HA.out.1.c3
      have a4 := HA.out.1.c4
      have a5 := HA.out.1.c5
      have b0 := HA.out.2.1.c0
      have b1 := HA.out.2.1.c1
      have b2 := HA.out.2.1.c2
      have b3 := HA.out.2.1.c3
      have b4 := HA.out.2.1.c4
      have b5 := HA.out.2.1.c5
      go_wp2_with (first | (go_at_call 45; refine (c1 _).mono ?_; rintro e w1 ⟨rfl, hb1⟩; have HB := hide (And.intro (HA.out.1.keep hb1) (And.intro (HA.out.2.1.keep hb1) (HA.out.2.2.trans (hb1.mono (Nat.le_of_lt HA.out.1.lt))))); clear HA hb1 a0 a1 a2 a3 a4 a5 b0 b1 b2 b3 b4 b5; have HA := HB; clear HB; have a0 := HA.out.1.c0; have a1 := HA.out.1.c1; have a2 := HA.out.1.c2; have a3 := HA.out.1.c3; have a4 := HA.out.1.c4; have a5 := HA.out.1.c5; have b0 := HA.out.2.1.c0; have b1 := HA.out.2.1.c1; have b2 := HA.out.2.1.c2; have b3 := HA.out.2.1.c3; have b4 := HA.out.2.1.c4; have b5 := HA.out.2.1.c5) | (go_at_call 46; refine (c2 _).mono ?_; rintro e w1 ⟨rfl, hb1⟩; have HB := hide (And.intro (HA.out.1.keep hb1) (And.intro (HA.out.2.1.keep hb1) (HA.out.2.2.trans (hb1.mono (Nat.le_of_lt HA.out.1.lt))))); clear HA hb1 a0 a1 a2 a3 a4 a5 b0 b1 b2 b3 b4 b5; have HA := HB; clear HB; have a0 := HA.out.1.c0; have a1 := HA.out.1.c1; have a2 := HA.out.1.c2; have a3 := HA.out.1.c3; have a4 := HA.out.1.c4; have a5 := HA.out.1.c5; have b0 := HA.out.2.1.c0; have b1 := HA.out.2.1.c1; have b2 := HA.out.2.1.c2; have b3 := HA.out.2.1.c3; have b4 := HA.out.2.1.c4; have b5 := HA.out.2.1.c5) | (go_at_call 47; refine (c3 _).mono ?_; rintro e w1 ⟨rfl, hb1⟩; have HB := hide (And.intro (HA.out.1.keep hb1) (And.intro (HA.out.2.1.keep hb1) (HA.out.2.2.trans (hb1.mono (Nat.le_of_lt HA.out.1.lt))))); clear HA hb1 a0 a1 a2 a3 a4 a5 b0 b1 b2 b3 b4 b5; have HA := HB; clear HB; have a0 := HA.out.1.c0; have a1 := HA.out.1.c1; have a2 := HA.out.1.c2; have a3 := HA.out.1.c3; have a4 := HA.out.1.c4; have a5 := HA.out.1.c5; have b0 := HA.out.2.1.c0; have b1 := HA.out.2.1.c1; have b2 := HA.out.2.1.c2; have b3 := HA.out.2.1.c3; have b4 := HA.out.2.1.c4; have b5 := HA.out.2.1.c5) | (go_at_call 48; refine (c4 _).mono ?_; rintro e w1 ⟨rfl, hb1⟩; have HB := hide (And.intro (HA.out.1.keep hb1) (And.intro (HA.out.2.1.keep hb1) (HA.out.2.2.trans (hb1.mono (Nat.le_of_lt HA.out.1.lt))))); clear HA hb1 a0 a1 a2 a3 a4 a5 b0 b1 b2 b3 b4 b5; have HA := HB; clear HB; have a0 := HA.out.1.c0; have a1 := HA.out.1.c1; have a2 := HA.out.1.c2; have a3 := HA.out.1.c3; have a4 := HA.out.1.c4; have a5 := HA.out.1.c5; have b0 := HA.out.2.1.c0; have b1 := HA.out.2.1.c1; have b2 := HA.out.2.1.c2; have b3 := HA.out.2.1.c3; have b4 := HA.out.2.1.c4; have b5 := HA.out.2.1.c5))
      clear c1 c2 c3 c4
      go_ret
      exact ⟨by rw [HR.out]; rfl, by rw [← HN.out]; exact HA.out.2.2⟩
    · cases t3
      · have x0 : Br ((w.alloc (.cells #[.int .i64 (up x.s), .bool x.k, .int .i64 x.n, .int .i64 x.lo, .int .i64 x.hi, .int .i64 (up x.p)] 33)).alloc (.cells #[.int .i64 (up y.s), .bool y.k, .int .i64 y.n, .int .i64 y.lo, .int .i64 y.hi, .int .i64 (up y.p)] 33)) (w.heap.size) (up x.s) x.k x.n x.lo x.hi (up x.p) := ((Br.new w (up x.s) x.k x.n x.lo x.hi (up x.p) 33)).keep ((Below.refl _ _).alloc (Nat.le_refl _) _)
        have x1 : Br ((w.alloc (.cells #[.int .i64 (up x.s), .bool x.k, .int .i64 x.n, .int .i64 x.lo, .int .i64 x.hi, .int .i64 (up x.p)] 33)).alloc (.cells #[.int .i64 (up y.s), .bool y.k, .int .i64 y.n, .int .i64 y.lo, .int .i64 y.hi, .int .i64 (up y.p)] 33)) (w.heap.size + 1) (up y.s) y.k y.n y.lo y.hi (up y.p) := (by simpa using Br.new (w.alloc (.cells #[.int .i64 (up x.s), .bool x.k, .int .i64 x.n, .int .i64 x.lo, .int .i64 x.hi, .int .i64 (up x.p)] 33)) (up y.s) y.k y.n y.lo y.hi (up y.p) 33 : Br ((w.alloc (.cells #[.int .i64 (up x.s), .bool x.k, .int .i64 x.n, .int .i64 x.lo, .int .i64 x.hi, .int .i64 (up x.p)] 33)).alloc (.cells #[.int .i64 (up y.s), .bool y.k, .int .i64 y.n, .int .i64 y.lo, .int .i64 y.hi, .int .i64 (up y.p)] 33)) (w.heap.size + 1) (up y.s) y.k y.n y.lo y.hi (up y.p))
        have xb : Below w.heap.size w ((w.alloc (.cells #[.int .i64 (up x.s), .bool x.k, .int .i64 x.n, .int .i64 x.lo, .int .i64 x.hi, .int .i64 (up x.p)] 33)).alloc (.cells #[.int .i64 (up y.s), .bool y.k, .int .i64 y.n, .int .i64 y.lo, .int .i64 y.hi, .int .i64 (up y.p)] 33)) := (by repeat (first | exact Below.refl _ _ | (refine Below.drew ?_) | (refine below_drewN ?_ _) | (refine Below.setCell ?_ (by first | omega | (simp; done) | (simp; omega)) _) | (refine Below.alloc ?_ (by first | omega | (simp; done) | (simp; omega)) _) | (refine Below.trans ?_ (Below.mono (by assumption) (by first | omega | (simp; done) | (simp; omega))))))
        go_enter Tryd.func15, Tryd.ntmps15
        go_upto_region 1 with fail
        go_name_world W hW
        rw [hW] at x0 x1 xb
        clear hW
        obtain ⟨N, hN⟩ : ∃ N, N = w.heap.size := ⟨_, rfl⟩
        rw [← hN] at x0 x1 xb ⊢
        have HN : Hid (N = w.heap.size) := hN
        clear hN
        have HA := hide (And.intro x0 (And.intro x1 xb))
        clear x0 x1 xb
        have a0 := HA.out.1.c0
        have a1 := HA.out.1.c1
        have a2 := HA.out.1.c2
        have a3 := HA.out.1.c3
        have a4 := HA.out.1.c4
        have a5 := HA.out.1.c5
        have b0 := HA.out.2.1.c0
        have b1 := HA.out.2.1.c1
        have b2 := HA.out.2.1.c2
        have b3 := HA.out.2.1.c3
        have b4 := HA.out.2.1.c4
        have b5 := HA.out.2.1.c5
        go_wp2_with (first | (go_at_call 45; refine (c1 _).mono ?_; rintro e w1 ⟨rfl, hb1⟩; have HB := hide (And.intro (HA.out.1.keep hb1) (And.intro (HA.out.2.1.keep hb1) (HA.out.2.2.trans (hb1.mono (Nat.le_of_lt HA.out.1.lt))))); clear HA hb1 a0 a1 a2 a3 a4 a5 b0 b1 b2 b3 b4 b5; have HA := HB; clear HB; have a0 := HA.out.1.c0; have a1 := HA.out.1.c1; have a2 := HA.out.1.c2; have a3 := HA.out.1.c3; have a4 := HA.out.1.c4; have a5 := HA.out.1.c5; have b0 := HA.out.2.1.c0; have b1 := HA.out.2.1.c1; have b2 := HA.out.2.1.c2; have b3 := HA.out.2.1.c3; have b4 := HA.out.2.1.c4; have b5 := HA.out.2.1.c5) | (go_at_call 46; refine (c2 _).mono ?_; rintro e w1 ⟨rfl, hb1⟩; have HB := hide (And.intro (HA.out.1.keep hb1) (And.intro (HA.out.2.1.keep hb1) (HA.out.2.2.trans (hb1.mono (Nat.le_of_lt HA.out.1.lt))))); clear HA hb1 a0 a1 a2 a3 a4 a5 b0 b1 b2 b3 b4 b5; have HA := HB; clear HB; have a0 := HA.out.1.c0; have a1 := HA.out.1.c1; have a2 := HA.out.1.c2; have a3 := HA.out.1.c3; have a4 := HA.out.1.c4; have a5 := HA.out.1.c5; have b0 := HA.out.2.1.c0; have b1 := HA.out.2.1.c1; have b2 := HA.out.2.1.c2; have b3 := HA.out.2.1.c3; have b4 := HA.out.2.1.c4; have b5 := HA.out.2.1.c5) | (go_at_call 47; refine (c3 _).mono ?_; rintro e w1 ⟨rfl, hb1⟩; have HB := hide (And.intro (HA.out.1.keep hb1) (And.intro (HA.out.2.1.keep hb1) (HA.out.2.2.trans (hb1.mono (Nat.le_of_lt HA.out.1.lt))))); clear HA hb1 a0 a1 a2 a3 a4 a5 b0 b1 b2 b3 b4 b5; have HA := HB; clear HB; have a0 := HA.out.1.c0; have a1 := HA.out.1.c1; have a2 := HA.out.1.c2; have a3 := HA.out.1.c3; have a4 := HA.out.1.c4; have a5 := HA.out.1.c5; have b0 := HA.out.2.1.c0; have b1 := HA.out.2.1.c1; have b2 := HA.out.2.1.c2; have b3 := HA.out.2.1.c3; have b4 := HA.out.2.1.c4; have b5 := HA.out.2.1.c5) | (go_at_call 48; refine (c4 _).mono ?_; rintro e w1 ⟨rfl, hb1⟩; have HB := hide (And.intro (HA.out.1.keep hb1) (And.intro (HA.out.2.1.keep hb1) (HA.out.2.2.trans (hb1.mono (Nat.le_of_lt HA.out.1.lt))))); clear HA hb1 a0 a1 a2 a3 a4 a5 b0 b1 b2 b3 b4 b5; have HA := HB; clear HB; have a0 := HA.out.1.c0; have a1 := HA.out.1.c1; have a2 := HA.out.1.c2; have a3 := HA.out.1.c3; have a4 := HA.out.1.c4; have a5 := HA.out.1.c5; have b0 := HA.out.2.1.c0; have b1 := HA.out.2.1.c1; have b2 := HA.out.2.1.c2; have b3 := HA.out.2.1.c3; have b4 := HA.out.2.1.c4; have b5 := HA.out.2.1.c5))
        clear c1 c2 c3 c4
        go_ret
        exact ⟨by rw [HR.out]; rfl, by rw [← HN.out]; exact HA.out.2.2⟩
      · have x0 : Br ((w.alloc (.cells #[.int .i64 (up x.s), .bool x.k, .int .i64 x.n, .int .i64 x.lo, .int .i64 x.hi, .int .i64 (up x.p)] 33)).alloc (.cells #[.int .i64 (up y.s), .bool y.k, .int .i64 y.n, .int .i64 y.lo, .int .i64 y.hi, .int .i64 (up y.p)] 33)) (w.heap.size) (up x.s) x.k x.n x.lo x.hi (up x.p) := ((Br.new w (up x.s) x.k x.n x.lo x.hi (up x.p) 33)).keep ((Below.refl _ _).alloc (Nat.le_refl _) _)
        have x1 : Br ((w.alloc (.cells #[.int .i64 (up x.s), .bool x.k, .int .i64 x.n, .int .i64 x.lo, .int .i64 x.hi, .int .i64 (up x.p)] 33)).alloc (.cells #[.int .i64 (up y.s), .bool y.k, .int .i64 y.n, .int .i64 y.lo, .int .i64 y.hi, .int .i64 (up y.p)] 33)) (w.heap.size + 1) (up y.s) y.k y.n y.lo y.hi (up y.p) := (by simpa using Br.new (w.alloc (.cells #[.int .i64 (up x.s), .bool x.k, .int .i64 x.n, .int .i64 x.lo, .int .i64 x.hi, .int .i64 (up x.p)] 33)) (up y.s) y.k y.n y.lo y.hi (up y.p) 33 : Br ((w.alloc (.cells #[.int .i64 (up x.s), .bool x.k, .int .i64 x.n, .int .i64 x.lo, .int .i64 x.hi, .int .i64 (up x.p)] 33)).alloc (.cells #[.int .i64 (up y.s), .bool y.k, .int .i64 y.n, .int .i64 y.lo, .int .i64 y.hi, .int .i64 (up y.p)] 33)) (w.heap.size + 1) (up y.s) y.k y.n y.lo y.hi (up y.p))
        have xb : Below w.heap.size w ((w.alloc (.cells #[.int .i64 (up x.s), .bool x.k, .int .i64 x.n, .int .i64 x.lo, .int .i64 x.hi, .int .i64 (up x.p)] 33)).alloc (.cells #[.int .i64 (up y.s), .bool y.k, .int .i64 y.n, .int .i64 y.lo, .int .i64 y.hi, .int .i64 (up y.p)] 33)) := (by repeat (first | exact Below.refl _ _ | (refine Below.drew ?_) | (refine below_drewN ?_ _) | (refine Below.setCell ?_ (by first | omega | (simp; done) | (simp; omega)) _) | (refine Below.alloc ?_ (by first | omega | (simp; done) | (simp; omega)) _) | (refine Below.trans ?_ (Below.mono (by assumption) (by first | omega | (simp; done) | (simp; omega))))))
        go_enter Tryd.func15, Tryd.ntmps15
        go_upto_region 1 with fail
        go_name_world W hW
        rw [hW] at x0 x1 xb
        clear hW
        obtain ⟨N, hN⟩ : ∃ N, N = w.heap.size := ⟨_, rfl⟩
        rw [← hN] at x0 x1 xb ⊢
        have HN : Hid (N = w.heap.size) := hN
        clear hN
        have HA := hide (And.intro x0 (And.intro x1 xb))
        clear x0 x1 xb
        have a0 := HA.out.1.c0
        have a1 := HA.out.1.c1
        have a2 := HA.out.1.c2
        have a3 := HA.out.1.c3
        have a4 := HA.out.1.c4
        have a5 := HA.out.1.c5
        have b0 := HA.out.2.1.c0
        have b1 := HA.out.2.1.c1
        have b2 := HA.out.2.1.c2
        have b3 := HA.out.2.1.c3
        have b4 := HA.out.2.1.c4
        have b5 := HA.out.2.1.c5
        go_wp2_with (first | (go_at_call 45; refine (c1 _).mono ?_; rintro e w1 ⟨rfl, hb1⟩; have HB := hide (And.intro (HA.out.1.keep hb1) (And.intro (HA.out.2.1.keep hb1) (HA.out.2.2.trans (hb1.mono (Nat.le_of_lt HA.out.1.lt))))); clear HA hb1 a0 a1 a2 a3 a4 a5 b0 b1 b2 b3 b4 b5; have HA := HB; clear HB; have a0 := HA.out.1.c0; have a1 := HA.out.1.c1; have a2 := HA.out.1.c2; have a3 := HA.out.1.c3; have a4 := HA.out.1.c4; have a5 := HA.out.1.c5; have b0 := HA.out.2.1.c0; have b1 := HA.out.2.1.c1; have b2 := HA.out.2.1.c2; have b3 := HA.out.2.1.c3; have b4 := HA.out.2.1.c4; have b5 := HA.out.2.1.c5) | (go_at_call 46; refine (c2 _).mono ?_; rintro e w1 ⟨rfl, hb1⟩; have HB := hide (And.intro (HA.out.1.keep hb1) (And.intro (HA.out.2.1.keep hb1) (HA.out.2.2.trans (hb1.mono (Nat.le_of_lt HA.out.1.lt))))); clear HA hb1 a0 a1 a2 a3 a4 a5 b0 b1 b2 b3 b4 b5; have HA := HB; clear HB; have a0 := HA.out.1.c0; have a1 := HA.out.1.c1; have a2 := HA.out.1.c2; have a3 := HA.out.1.c3; have a4 := HA.out.1.c4; have a5 := HA.out.1.c5; have b0 := HA.out.2.1.c0; have b1 := HA.out.2.1.c1; have b2 := HA.out.2.1.c2; have b3 := HA.out.2.1.c3; have b4 := HA.out.2.1.c4; have b5 := HA.out.2.1.c5) | (go_at_call 47; refine (c3 _).mono ?_; rintro e w1 ⟨rfl, hb1⟩; have HB := hide (And.intro (HA.out.1.keep hb1) (And.intro (HA.out.2.1.keep hb1) (HA.out.2.2.trans (hb1.mono (Nat.le_of_lt HA.out.1.lt))))); clear HA hb1 a0 a1 a2 a3 a4 a5 b0 b1 b2 b3 b4 b5; have HA := HB; clear HB; have a0 := HA.out.1.c0; have a1 := HA.out.1.c1; have a2 := HA.out.1.c2; have a3 := HA.out.1.c3; have a4 := HA.out.1.c4; have a5 := HA.out.1.c5; have b0 := HA.out.2.1.c0; have b1 := HA.out.2.1.c1; have b2 := HA.out.2.1.c2; have b3 := HA.out.2.1.c3; have b4 := HA.out.2.1.c4; have b5 := HA.out.2.1.c5) | (go_at_call 48; refine (c4 _).mono ?_; rintro e w1 ⟨rfl, hb1⟩; have HB := hide (And.intro (HA.out.1.keep hb1) (And.intro (HA.out.2.1.keep hb1) (HA.out.2.2.trans (hb1.mono (Nat.le_of_lt HA.out.1.lt))))); clear HA hb1 a0 a1 a2 a3 a4 a5 b0 b1 b2 b3 b4 b5; have HA := HB; clear HB; have a0 := HA.out.1.c0; have a1 := HA.out.1.c1; have a2 := HA.out.1.c2; have a3 := HA.out.1.c3; have a4 := HA.out.1.c4; have a5 := HA.out.1.c5; have b0 := HA.out.2.1.c0; have b1 := HA.out.2.1.c1; have b2 := HA.out.2.1.c2; have b3 := HA.out.2.1.c3; have b4 := HA.out.2.1.c4; have b5 := HA.out.2.1.c5))
        clear c1 c2 c3 c4
        go_ret
        exact ⟨by rw [HR.out]; rfl, by rw [← HN.out]; exact HA.out.2.2⟩
end Go.Proofs.YthiacdbjlkpfgaaDoor
namespace Go.Proofs.YthiacdbjlkpfgaaDoor
open Go.RowKit
/-- a Value as it came in -/
structure R where
  s : Int
  k : Bool
  n : Int
  lo : Int
  hi : Int
  p : Int
def R.fit (A : R) : Prop := i64 A.n ∧ i64 A.lo ∧ i64 A.hi
abbrev R.v (A : R) : V := fixV A.s A.k A.n A.lo A.hi A.p
theorem R.ok {A : R} (h : A.fit) : A.v.ok := fix_ok _ _ _ _ _ _ h.1 h.2.1 h.2.2
/-- two Values in one block -/
structure Bv (w : World) (q : Nat) (A B : R) : Prop where
  a : Br w q A.s A.k A.n A.lo A.hi A.p
  c6 : w.cell? ⟨q, 6, none⟩ = some (.int .i64 B.s)
  c7 : w.cell? ⟨q, 7, none⟩ = some (.bool B.k)
  c8 : w.cell? ⟨q, 8, none⟩ = some (.int .i64 B.n)
  c9 : w.cell? ⟨q, 9, none⟩ = some (.int .i64 B.lo)
  c10 : w.cell? ⟨q, 10, none⟩ = some (.int .i64 B.hi)
  c11 : w.cell? ⟨q, 11, none⟩ = some (.int .i64 B.p)
theorem Bv.lt {w : World} {q : Nat} {A B : R} (h : Bv w q A B) : q < w.heap.size := h.a.lt
theorem Bv.keep {w w' : World} {q : Nat} {A B : R} (h : Bv w q A B) (hb : Below w.heap.size w w') : Bv w' q A B :=
  ⟨h.a.keep hb, ((bcell hb).1 q 6 h.lt).trans h.c6, ((bcell hb).1 q 7 h.lt).trans h.c7, ((bcell hb).1 q 8 h.lt).trans h.c8, ((bcell hb).1 q 9 h.lt).trans h.c9, ((bcell hb).1 q 10 h.lt).trans h.c10, ((bcell hb).1 q 11 h.lt).trans h.c11⟩
theorem Bv.put {w : World} {q r : Nat} {A B : R} (h : Bv w r A B) (hq : r ≠ q) (a b c d e f : Value) : Bv (st6 w q a b c d e f) r A B :=
  ⟨h.a.put hq _ _ _ _ _ _, (st6_cell w q r 6 a b c d e f hq).trans h.c6, (st6_cell w q r 7 a b c d e f hq).trans h.c7, (st6_cell w q r 8 a b c d e f hq).trans h.c8, (st6_cell w q r 9 a b c d e f hq).trans h.c9, (st6_cell w q r 10 a b c d e f hq).trans h.c10, (st6_cell w q r 11 a b c d e f hq).trans h.c11⟩
theorem Bv.new (w : World) (A B : R) (t : TypeId) : Bv (w.alloc (.cells #[.int .i64 A.s, .bool A.k, .int .i64 A.n, .int .i64 A.lo, .int .i64 A.hi, .int .i64 A.p, .int .i64 B.s, .bool B.k, .int .i64 B.n, .int .i64 B.lo, .int .i64 B.hi, .int .i64 B.p] t)) w.heap.size A B :=
  ⟨⟨by simp, by simp, by simp, by simp, by simp, by simp⟩, by simp, by simp, by simp, by simp, by simp, by simp⟩
theorem some_pa (x : V) (is : Bool) (h : x.p &&& 3 = x.p) : (someV x is).1.p &&& 3 = (someV x is).1.p := by
  unfold someV
  split
  · exact h
  · decide
theorem and3_idem : ∀ x : BitVec 3, x &&& 3 &&& 3 = x &&& 3 := by decide
theorem and1_low3 : ∀ x : BitVec 3, x &&& 1 &&& 3 = x &&& 1 := by decide
theorem two_pa (op : Int) (x y : V) : (twoV op x y).1.p &&& 3 = (twoV op x y).1.p := some_pa _ _ (twop_low op x.p y.p).2.2
theorem one_pa (op : Int) (x : V) : (oneV op x).1.p &&& 3 = (oneV op x).1.p := some_pa _ _ (by
  show oneQ op x.p &&& 3 = oneQ op x.p
  unfold oneQ
  split
  · exact and3_idem _
  · decide)
theorem br_pa (yes : Bool) (x : V) : (branchV x yes).1.p &&& 3 = (branchV x yes).1.p := some_pa _ _ (by
  show branchQ x.p yes &&& 3 = branchQ x.p yes
  unfold branchQ
  split
  · exact and3_idem _
  · exact and1_low3 _)
theorem ws_self : ∀ x : BitVec 3, withinS x x = true := by decide
theorem self_in (x : V) : withinV x x = true := (withinV_iff x x).2 ⟨ws_self _, wk_self _ _, ⟨Int.le_refl _, Int.le_refl _⟩, ws_self _⟩
theorem wpAnyH_listed {P : Program} {md : Region.Mode} {ops : Array Oper} {Q : Exit → Act → World → Prop} {S : World → Prop} {fuel : Nat} {l l' : Array Bool} {a : Act} {w : World} (h : l = l') (hw : wpAnyH P md ops Q S fuel l' a w) : wpAnyH P md ops Q S fuel l a w := h ▸ hw
set_option maxRecDepth 100000 in
set_option maxHeartbeats 16000000 in
theorem about_V (A : R) (m : Int) (w : World) (hA : A.fit) (hm : i64 m) : Calls Tryd.prog 5 #[.agg #[.int .i64 A.s, .bool A.k, .int .i64 A.n, .int .i64 A.lo, .int .i64 A.hi, .int .i64 A.p], .int .i64 m] w fun e w' => e = .returned (.agg #[.int .i64 (up (joinV A.v (ofV m)).s), .bool (joinV A.v (ofV m)).k, .int .i64 (joinV A.v (ofV m)).n, .int .i64 (joinV A.v (ofV m)).lo, .int .i64 (joinV A.v (ofV m)).hi, .int .i64 (up (joinV A.v (ofV m)).p)]) ∧ Below w.heap.size w w' := by
  have p1 := (R.ok hA).p3
  have p2 := (of_ok m hm).p3
  have c1 := fun w => fix_V A.s A.k A.n A.lo A.hi A.p w
  have c4 := fun w => of_V m w
  have c5 := fun w => join_V A.v (ofV m) w p1 p2
  have c3 := fun w => to_V (up A.v.s) A.v.k A.v.n A.v.lo A.v.hi (up A.v.p) w
  unfold R.v at *
  generalize joinV (fixV A.s A.k A.n A.lo A.hi A.p) (ofV m) = r at *
  generalize fixV A.s A.k A.n A.lo A.hi A.p = X at *
  generalize ofV m = Y at *
  clear p1 p2 hA hm
  have x0 : Br ((w.alloc (.cells #[.int .i64 A.s, .bool A.k, .int .i64 A.n, .int .i64 A.lo, .int .i64 A.hi, .int .i64 A.p] 28)).alloc (.cells #[.int .i64 0, .bool false, .int .i64 0, .int .i64 0, .int .i64 0, .int .i64 0] 33)) (w.heap.size) A.s A.k A.n A.lo A.hi A.p := ((Br.new w A.s A.k A.n A.lo A.hi A.p 28)).keep ((Below.refl _ _).alloc (Nat.le_refl _) _)
  have x1 : Br ((w.alloc (.cells #[.int .i64 A.s, .bool A.k, .int .i64 A.n, .int .i64 A.lo, .int .i64 A.hi, .int .i64 A.p] 28)).alloc (.cells #[.int .i64 0, .bool false, .int .i64 0, .int .i64 0, .int .i64 0, .int .i64 0] 33)) (w.heap.size + 1) 0 false 0 0 0 0 := (by simpa using Br.new (w.alloc (.cells #[.int .i64 A.s, .bool A.k, .int .i64 A.n, .int .i64 A.lo, .int .i64 A.hi, .int .i64 A.p] 28)) 0 false 0 0 0 0 33 : Br ((w.alloc (.cells #[.int .i64 A.s, .bool A.k, .int .i64 A.n, .int .i64 A.lo, .int .i64 A.hi, .int .i64 A.p] 28)).alloc (.cells #[.int .i64 0, .bool false, .int .i64 0, .int .i64 0, .int .i64 0, .int .i64 0] 33)) (w.heap.size + 1) 0 false 0 0 0 0)
  have xf : Fz ((w.alloc (.cells #[.int .i64 A.s, .bool A.k, .int .i64 A.n, .int .i64 A.lo, .int .i64 A.hi, .int .i64 A.p] 28)).alloc (.cells #[.int .i64 0, .bool false, .int .i64 0, .int .i64 0, .int .i64 0, .int .i64 0] 33)) (w.heap.size + 1) := by simpa using Fz.new (w.alloc (.cells #[.int .i64 A.s, .bool A.k, .int .i64 A.n, .int .i64 A.lo, .int .i64 A.hi, .int .i64 A.p] 28)) 0 false 0 0 0 0 33
  have xb : Below w.heap.size w ((w.alloc (.cells #[.int .i64 A.s, .bool A.k, .int .i64 A.n, .int .i64 A.lo, .int .i64 A.hi, .int .i64 A.p] 28)).alloc (.cells #[.int .i64 0, .bool false, .int .i64 0, .int .i64 0, .int .i64 0, .int .i64 0] 33)) := (by repeat (first | exact Below.refl _ _ | (refine Below.drew ?_) | (refine below_drewN ?_ _) | (refine Below.setCell ?_ (by first | omega | (simp; done) | (simp; omega)) _) | (refine Below.alloc ?_ (by first | omega | (simp; done) | (simp; omega)) _) | (refine Below.trans ?_ (Below.mono (by assumption) (by first | omega | (simp; done) | (simp; omega))))))
  go_enter Tryd.func5, Tryd.ntmps5
  go_upto_region 1 with fail
  go_name_world W hW
  rw [hW] at x0 x1 xf xb
  clear hW
  obtain ⟨N, hN⟩ : ∃ N, N = w.heap.size := ⟨_, rfl⟩
  rw [← hN] at x0 x1 xf xb ⊢
  have HN : Hid (N = w.heap.size) := hN
  clear hN
  have HA := hide (And.intro x0 (And.intro x1 (And.intro xf xb)))
  clear x0 x1 xf xb
  have a0 := HA.out.1.c0
  have a1 := HA.out.1.c1
  have a2 := HA.out.1.c2
  have a3 := HA.out.1.c3
  have a4 := HA.out.1.c4
  have a5 := HA.out.1.c5
  have b0 := HA.out.2.1.c0
  have b1 := HA.out.2.1.c1
  have b2 := HA.out.2.1.c2
  have b3 := HA.out.2.1.c3
  have b4 := HA.out.2.1.c4
  have b5 := HA.out.2.1.c5
  have f0 := HA.out.2.2.1.f0
  have f1 := HA.out.2.2.1.f1
  have f2 := HA.out.2.2.1.f2
  have f3 := HA.out.2.2.1.f3
  have f4 := HA.out.2.2.1.f4
  have f5 := HA.out.2.2.1.f5
  go_wp2_with (first | (go_at_call 13; refine (c1 _).mono ?_; rintro e w1 ⟨rfl, hb1⟩; have HZ := hide (And.intro (HA.out.1.keep hb1) (And.intro (HA.out.2.1.keep hb1) (And.intro (HA.out.2.2.1.keep HA.out.2.1.lt hb1) (HA.out.2.2.2.trans (hb1.mono (Nat.le_of_lt HA.out.1.lt)))))); clear HA hb1 c1 a0 a1 a2 a3 a4 a5 b0 b1 b2 b3 b4 b5 f0 f1 f2 f3 f4 f5; have HA := HZ; clear HZ; have a0 := HA.out.1.c0; have a1 := HA.out.1.c1; have a2 := HA.out.1.c2; have a3 := HA.out.1.c3; have a4 := HA.out.1.c4; have a5 := HA.out.1.c5; have b0 := HA.out.2.1.c0; have b1 := HA.out.2.1.c1; have b2 := HA.out.2.1.c2; have b3 := HA.out.2.1.c3; have b4 := HA.out.2.1.c4; have b5 := HA.out.2.1.c5; have f0 := HA.out.2.2.1.f0; have f1 := HA.out.2.2.1.f1; have f2 := HA.out.2.2.1.f2; have f3 := HA.out.2.2.1.f3; have f4 := HA.out.2.2.1.f4; have f5 := HA.out.2.2.1.f5) | (go_at_call 12; refine (c3 _).mono ?_; rintro e w1 ⟨rfl, hb1⟩; have HZ := hide (And.intro (HA.out.1.keep hb1) (And.intro (HA.out.2.1.keep hb1) (And.intro (HA.out.2.2.1.keep HA.out.2.1.lt hb1) (HA.out.2.2.2.trans (hb1.mono (Nat.le_of_lt HA.out.1.lt)))))); clear HA hb1 c3 a0 a1 a2 a3 a4 a5 b0 b1 b2 b3 b4 b5 f0 f1 f2 f3 f4 f5; have HA := HZ; clear HZ; have a0 := HA.out.1.c0; have a1 := HA.out.1.c1; have a2 := HA.out.1.c2; have a3 := HA.out.1.c3; have a4 := HA.out.1.c4; have a5 := HA.out.1.c5; have b0 := HA.out.2.1.c0; have b1 := HA.out.2.1.c1; have b2 := HA.out.2.1.c2; have b3 := HA.out.2.1.c3; have b4 := HA.out.2.1.c4; have b5 := HA.out.2.1.c5; have f0 := HA.out.2.2.1.f0; have f1 := HA.out.2.2.1.f1; have f2 := HA.out.2.2.1.f2; have f3 := HA.out.2.2.1.f3; have f4 := HA.out.2.2.1.f4; have f5 := HA.out.2.2.1.f5) | (go_at_call 16; refine (c4 _).mono ?_; rintro e w1 ⟨rfl, hb1⟩; have HZ := hide (And.intro (HA.out.1.keep hb1) (And.intro (HA.out.2.1.keep hb1) (And.intro (HA.out.2.2.1.keep HA.out.2.1.lt hb1) (HA.out.2.2.2.trans (hb1.mono (Nat.le_of_lt HA.out.1.lt)))))); clear HA hb1 c4 a0 a1 a2 a3 a4 a5 b0 b1 b2 b3 b4 b5 f0 f1 f2 f3 f4 f5; have HA := HZ; clear HZ; have a0 := HA.out.1.c0; have a1 := HA.out.1.c1; have a2 := HA.out.1.c2; have a3 := HA.out.1.c3; have a4 := HA.out.1.c4; have a5 := HA.out.1.c5; have b0 := HA.out.2.1.c0; have b1 := HA.out.2.1.c1; have b2 := HA.out.2.1.c2; have b3 := HA.out.2.1.c3; have b4 := HA.out.2.1.c4; have b5 := HA.out.2.1.c5; have f0 := HA.out.2.2.1.f0; have f1 := HA.out.2.2.1.f1; have f2 := HA.out.2.2.1.f2; have f3 := HA.out.2.2.1.f3; have f4 := HA.out.2.2.1.f4; have f5 := HA.out.2.2.1.f5) | (go_at_call 14; refine (c5 _).mono ?_; rintro e w1 ⟨rfl, hb1⟩; have HZ := hide (And.intro (HA.out.1.keep hb1) (And.intro (HA.out.2.1.keep hb1) (And.intro (HA.out.2.2.1.keep HA.out.2.1.lt hb1) (HA.out.2.2.2.trans (hb1.mono (Nat.le_of_lt HA.out.1.lt)))))); clear HA hb1 c5 a0 a1 a2 a3 a4 a5 b0 b1 b2 b3 b4 b5 f0 f1 f2 f3 f4 f5; have HA := HZ; clear HZ; have a0 := HA.out.1.c0; have a1 := HA.out.1.c1; have a2 := HA.out.1.c2; have a3 := HA.out.1.c3; have a4 := HA.out.1.c4; have a5 := HA.out.1.c5; have b0 := HA.out.2.1.c0; have b1 := HA.out.2.1.c1; have b2 := HA.out.2.1.c2; have b3 := HA.out.2.1.c3; have b4 := HA.out.2.1.c4; have b5 := HA.out.2.1.c5; have f0 := HA.out.2.2.1.f0; have f1 := HA.out.2.2.1.f1; have f2 := HA.out.2.2.1.f2; have f3 := HA.out.2.2.1.f3; have f4 := HA.out.2.2.1.f4; have f5 := HA.out.2.2.1.f5))
  have zw := HA.out.2.1.wrote (up r.s) r.k r.n r.lo r.hi (up r.p)
  have hZ := st6_below HA.out.2.2.2 (N + 1) (Nat.le_succ _) (.int .i64 (up r.s)) (.bool r.k) (.int .i64 r.n) (.int .i64 r.lo) (.int .i64 r.hi) (.int .i64 (up r.p))
  clear HA a0 a1 a2 a3 a4 a5 b0 b1 b2 b3 b4 b5 f0 f1 f2 f3 f4 f5
  have a0 := zw.c0
  have a1 := zw.c1
  have a2 := zw.c2
  have a3 := zw.c3
  have a4 := zw.c4
  have a5 := zw.c5
  clear zw
  refine bodyPost_ret (by simp [results, Tryd.results5, go_sem, *]; try rfl) rfl ⟨?_, by rw [← HN.out]; exact hZ⟩
  rfl
end Go.Proofs.YthiacdbjlkpfgaaDoor
