import Derived.Test.YtmhicllhjiglkaaG09
import Derived.Test.YtmhicllhjiglkaaG06
namespace Go.Proofs.Ytmhicllhjiglkaa
open Go.RowKit
set_option maxRecDepth 100000 in
set_option maxHeartbeats 16000000 in
theorem ofr_V (n : Int) (w : World) (hn : i64 n) : Calls Try.prog 39 #[.int .i64 n] w fun e w' => e = .returned (.agg #[.int .i64 (up (ofV n).s), .bool (ofV n).k, .int .i64 (ofV n).n, .int .i64 (ofV n).lo, .int .i64 (ofV n).hi, .int .i64 (up (ofV n).p)]) ∧ Below w.heap.size w w' := by
  have c1 := fun w => bel0 (sofr_any n w)
  have c2 := fun w => bel0 (pofr_any n hn w)
  have x0 : Br (w.alloc (.cells #[.int .i64 0, .bool false, .int .i64 0, .int .i64 0, .int .i64 0, .int .i64 0] 48)) (w.heap.size) 0 false 0 0 0 0 := (Br.new w 0 false 0 0 0 0 48)
  have xf : Fz (w.alloc (.cells #[.int .i64 0, .bool false, .int .i64 0, .int .i64 0, .int .i64 0, .int .i64 0] 48)) (w.heap.size) := by simpa using Fz.new w 0 false 0 0 0 0 48
  have xb : Below w.heap.size w (w.alloc (.cells #[.int .i64 0, .bool false, .int .i64 0, .int .i64 0, .int .i64 0, .int .i64 0] 48)) := (by repeat (first | exact Below.refl _ _ | (refine Below.drew ?_) | (refine below_drewN ?_ _) | (refine Below.setCell ?_ (by first | omega | (simp; done) | (simp; omega)) _) | (refine Below.alloc ?_ (by first | omega | (simp; done) | (simp; omega)) _) | (refine Below.trans ?_ (Below.mono (by assumption) (by first | omega | (simp; done) | (simp; omega))))))
  go_enter Try.func39, Try.ntmps39
  go_upto_region 1 with fail
  go_name_world W hW
  rw [hW] at x0 xf xb
  clear hW
  obtain ⟨N, hN⟩ : ∃ N, N = w.heap.size := ⟨_, rfl⟩
  rw [← hN] at x0 xf xb ⊢
  have HN : Hid (N = w.heap.size) := hN
  clear hN
  have HA := hide (And.intro x0 (And.intro xf xb))
  clear x0 xf xb
  have a0 := HA.out.1.c0
  have a1 := HA.out.1.c1
  have a2 := HA.out.1.c2
  have a3 := HA.out.1.c3
  have a4 := HA.out.1.c4
  have a5 := HA.out.1.c5
  have f0 := HA.out.2.1.f0
  have f1 := HA.out.2.1.f1
  have f2 := HA.out.2.1.f2
  have f3 := HA.out.2.1.f3
  have f4 := HA.out.2.1.f4
  have f5 := HA.out.2.1.f5
  go_wp2_with (first | (go_at_call 77; refine (c1 _).mono ?_; rintro e w1 ⟨rfl, hb1⟩; have HB := hide (And.intro (HA.out.1.keep hb1) (And.intro (HA.out.2.1.keep HA.out.1.lt hb1) (HA.out.2.2.trans (hb1.mono (Nat.le_of_lt HA.out.1.lt))))); clear HA hb1 a0 a1 a2 a3 a4 a5 f0 f1 f2 f3 f4 f5; have HA := HB; clear HB; have a0 := HA.out.1.c0; have a1 := HA.out.1.c1; have a2 := HA.out.1.c2; have a3 := HA.out.1.c3; have a4 := HA.out.1.c4; have a5 := HA.out.1.c5; have f0 := HA.out.2.1.f0; have f1 := HA.out.2.1.f1; have f2 := HA.out.2.1.f2; have f3 := HA.out.2.1.f3; have f4 := HA.out.2.1.f4; have f5 := HA.out.2.1.f5) | (go_at_call 78; refine (c2 _).mono ?_; rintro e w1 ⟨rfl, hb1⟩; have HB := hide (And.intro (HA.out.1.keep hb1) (And.intro (HA.out.2.1.keep HA.out.1.lt hb1) (HA.out.2.2.trans (hb1.mono (Nat.le_of_lt HA.out.1.lt))))); clear HA hb1 a0 a1 a2 a3 a4 a5 f0 f1 f2 f3 f4 f5; have HA := HB; clear HB; have a0 := HA.out.1.c0; have a1 := HA.out.1.c1; have a2 := HA.out.1.c2; have a3 := HA.out.1.c3; have a4 := HA.out.1.c4; have a5 := HA.out.1.c5; have f0 := HA.out.2.1.f0; have f1 := HA.out.2.1.f1; have f2 := HA.out.2.1.f2; have f3 := HA.out.2.1.f3; have f4 := HA.out.2.1.f4; have f5 := HA.out.2.1.f5))
  have zw := HA.out.1.wrote (up (sg n)) true n n n (up (pr n))
  have hZ := st6_below HA.out.2.2 N (Nat.le_refl _) (.int .i64 (up (sg n))) (.bool true) (.int .i64 n) (.int .i64 n) (.int .i64 n) (.int .i64 (up (pr n)))
  clear HA c1 c2 a0 a1 a2 a3 a4 a5 f0 f1 f2 f3 f4 f5
  have a0 := zw.c0
  have a1 := zw.c1
  have a2 := zw.c2
  have a3 := zw.c3
  have a4 := zw.c4
  have a5 := zw.c5
  clear zw
  refine bodyPost_ret (by simp [results, Try.results39, go_sem, *]; try rfl) rfl ⟨?_, by rw [← HN.out]; exact hZ⟩
  rfl
set_option maxRecDepth 100000 in
set_option maxHeartbeats 16000000 in
theorem has_V (x : V) (n : Int) (w : World) : Calls Try.prog 72 #[.agg #[.int .i64 (up x.s), .bool x.k, .int .i64 x.n, .int .i64 x.lo, .int .i64 x.hi, .int .i64 (up x.p)], .int .i64 n] w fun e w' => e = .returned (.bool (hasV x n)) ∧ Below w.heap.size w w' := by
  have c1 := fun w => bel0 (shas_any (up x.s) n w)
  have c2 := fun w => bel1 (khas_any x.k x.n n w)
  have c3 := fun w => bel1 (nhas_any x.lo x.hi n w)
  have c4 := fun w => bel0 (phas_any (up x.p) n w)
  rw [low_up] at c1 c4
  have HR : Hid (hasV x n = (hasS x.s n && (hasK x.k x.n n && (hasR x.lo x.hi n && hasP x.p n)))) := rfl
  generalize hasV x n = r at *
  generalize hasS x.s n = t1 at *
  generalize hasK x.k x.n n = t2 at *
  generalize hasR x.lo x.hi n = t3 at *
  generalize hasP x.p n = t4 at *
  cases t1
  · have x0 : Br (w.alloc (.cells #[.int .i64 (up x.s), .bool x.k, .int .i64 x.n, .int .i64 x.lo, .int .i64 x.hi, .int .i64 (up x.p)] 53)) (w.heap.size) (up x.s) x.k x.n x.lo x.hi (up x.p) := (Br.new w (up x.s) x.k x.n x.lo x.hi (up x.p) 53)
    have xb : Below w.heap.size w (w.alloc (.cells #[.int .i64 (up x.s), .bool x.k, .int .i64 x.n, .int .i64 x.lo, .int .i64 x.hi, .int .i64 (up x.p)] 53)) := (by repeat (first | exact Below.refl _ _ | (refine Below.drew ?_) | (refine below_drewN ?_ _) | (refine Below.setCell ?_ (by first | omega | (simp; done) | (simp; omega)) _) | (refine Below.alloc ?_ (by first | omega | (simp; done) | (simp; omega)) _) | (refine Below.trans ?_ (Below.mono (by assumption) (by first | omega | (simp; done) | (simp; omega))))))
    go_enter Try.func72, Try.ntmps72
    go_upto_region 1 with fail
    go_name_world W hW
    rw [hW] at x0 xb
    clear hW
    obtain ⟨N, hN⟩ : ∃ N, N = w.heap.size := ⟨_, rfl⟩
    rw [← hN] at x0 xb ⊢
    have HN : Hid (N = w.heap.size) := hN
    clear hN
    have HA := hide (And.intro x0 xb)
    clear x0 xb
    have a0 := HA.out.1.c0
    have a1 := HA.out.1.c1
    have a2 := HA.out.1.c2
    have a3 := HA.out.1.c3
    have a4 := HA.out.1.c4
    have a5 := HA.out.1.c5
    go_wp2_with (first | (go_at_call 119; refine (c1 _).mono ?_; rintro e w1 ⟨rfl, hb1⟩; have HB := hide (And.intro (HA.out.1.keep hb1) (HA.out.2.trans (hb1.mono (Nat.le_of_lt HA.out.1.lt)))); clear HA hb1 a0 a1 a2 a3 a4 a5; have HA := HB; clear HB; have a0 := HA.out.1.c0; have a1 := HA.out.1.c1; have a2 := HA.out.1.c2; have a3 := HA.out.1.c3; have a4 := HA.out.1.c4; have a5 := HA.out.1.c5) | (go_at_call 120; refine (c2 _).mono ?_; rintro e w1 ⟨rfl, hb1⟩; have HB := hide (And.intro (HA.out.1.keep hb1) (HA.out.2.trans (hb1.mono (Nat.le_of_lt HA.out.1.lt)))); clear HA hb1 a0 a1 a2 a3 a4 a5; have HA := HB; clear HB; have a0 := HA.out.1.c0; have a1 := HA.out.1.c1; have a2 := HA.out.1.c2; have a3 := HA.out.1.c3; have a4 := HA.out.1.c4; have a5 := HA.out.1.c5) | (go_at_call 121; refine (c3 _).mono ?_; rintro e w1 ⟨rfl, hb1⟩; have HB := hide (And.intro (HA.out.1.keep hb1) (HA.out.2.trans (hb1.mono (Nat.le_of_lt HA.out.1.lt)))); clear HA hb1 a0 a1 a2 a3 a4 a5; have HA := HB; clear HB; have a0 := HA.out.1.c0; have a1 := HA.out.1.c1; have a2 := HA.out.1.c2; have a3 := HA.out.1.c3; have a4 := HA.out.1.c4; have a5 := HA.out.1.c5) | (go_at_call 122; refine (c4 _).mono ?_; rintro e w1 ⟨rfl, hb1⟩; have HB := hide (And.intro (HA.out.1.keep hb1) (HA.out.2.trans (hb1.mono (Nat.le_of_lt HA.out.1.lt)))); clear HA hb1 a0 a1 a2 a3 a4 a5; have HA := HB; clear HB; have a0 := HA.out.1.c0; have a1 := HA.out.1.c1; have a2 := HA.out.1.c2; have a3 := HA.out.1.c3; have a4 := HA.out.1.c4; have a5 := HA.out.1.c5))
    clear c1 c2 c3 c4
    go_ret
    exact ⟨by rw [HR.out]; rfl, by rw [← HN.out]; exact HA.out.2⟩
  · cases t2
    · have x0 : Br (w.alloc (.cells #[.int .i64 (up x.s), .bool x.k, .int .i64 x.n, .int .i64 x.lo, .int .i64 x.hi, .int .i64 (up x.p)] 53)) (w.heap.size) (up x.s) x.k x.n x.lo x.hi (up x.p) := (Br.new w (up x.s) x.k x.n x.lo x.hi (up x.p) 53)
      have xb : Below w.heap.size w (w.alloc (.cells #[.int .i64 (up x.s), .bool x.k, .int .i64 x.n, .int .i64 x.lo, .int .i64 x.hi, .int .i64 (up x.p)] 53)) := (by repeat (first | exact Below.refl _ _ | (refine Below.drew ?_) | (refine below_drewN ?_ _) | (refine Below.setCell ?_ (by first | omega | (simp; done) | (simp; omega)) _) | (refine Below.alloc ?_ (by first | omega | (simp; done) | (simp; omega)) _) | (refine Below.trans ?_ (Below.mono (by assumption) (by first | omega | (simp; done) | (simp; omega))))))
      go_enter Try.func72, Try.ntmps72
      go_upto_region 1 with fail
      go_name_world W hW
      rw [hW] at x0 xb
      clear hW
      obtain ⟨N, hN⟩ : ∃ N, N = w.heap.size := ⟨_, rfl⟩
      rw [← hN] at x0 xb ⊢
      have HN : Hid (N = w.heap.size) := hN
      clear hN
      have HA := hide (And.intro x0 xb)
      clear x0 xb
      have a0 := HA.out.1.c0
      have a1 := HA.out.1.c1
      have a2 := HA.out.1.c2
      have a3 := HA.out.1.c3
      have a4 := HA.out.1.c4
      have a5 := HA.out.1.c5
      go_wp2_with (first | (go_at_call 119; refine (c1 _).mono ?_; rintro e w1 ⟨rfl, hb1⟩; have HB := hide (And.intro (HA.out.1.keep hb1) (HA.out.2.trans (hb1.mono (Nat.le_of_lt HA.out.1.lt)))); clear HA hb1 a0 a1 a2 a3 a4 a5; have HA := HB; clear HB; have a0 := HA.out.1.c0; have a1 := HA.out.1.c1; have a2 := HA.out.1.c2; have a3 := HA.out.1.c3; have a4 := HA.out.1.c4; have a5 := HA.out.1.c5) | (go_at_call 120; refine (c2 _).mono ?_; rintro e w1 ⟨rfl, hb1⟩; have HB := hide (And.intro (HA.out.1.keep hb1) (HA.out.2.trans (hb1.mono (Nat.le_of_lt HA.out.1.lt)))); clear HA hb1 a0 a1 a2 a3 a4 a5; have HA := HB; clear HB; have a0 := HA.out.1.c0; have a1 := HA.out.1.c1; have a2 := HA.out.1.c2; have a3 := HA.out.1.c3; have a4 := HA.out.1.c4; have a5 := HA.out.1.c5) | (go_at_call 121; refine (c3 _).mono ?_; rintro e w1 ⟨rfl, hb1⟩; have HB := hide (And.intro (HA.out.1.keep hb1) (HA.out.2.trans (hb1.mono (Nat.le_of_lt HA.out.1.lt)))); clear HA hb1 a0 a1 a2 a3 a4 a5; have HA := HB; clear HB; have a0 := HA.out.1.c0; have a1 := HA.out.1.c1; have a2 := HA.out.1.c2; have a3 := HA.out.1.c3; have a4 := HA.out.1.c4; have a5 := HA.out.1.c5) | (go_at_call 122; refine (c4 _).mono ?_; rintro e w1 ⟨rfl, hb1⟩; have HB := hide (And.intro (HA.out.1.keep hb1) (HA.out.2.trans (hb1.mono (Nat.le_of_lt HA.out.1.lt)))); clear HA hb1 a0 a1 a2 a3 a4 a5; have HA := HB; clear HB; have a0 := HA.out.1.c0; have a1 := HA.out.1.c1; have a2 := HA.out.1.c2; have a3 := HA.out.1.c3; have a4 := HA.out.1.c4; have a5 := HA.out.1.c5))
      clear c1 c2 c3 c4
      go_ret
      exact ⟨by rw [HR.out]; rfl, by rw [← HN.out]; exact HA.out.2⟩
    · cases t3
      · have x0 : Br (w.alloc (.cells #[.int .i64 (up x.s), .bool x.k, .int .i64 x.n, .int .i64 x.lo, .int .i64 x.hi, .int .i64 (up x.p)] 53)) (w.heap.size) (up x.s) x.k x.n x.lo x.hi (up x.p) := (Br.new w (up x.s) x.k x.n x.lo x.hi (up x.p) 53)
        have xb : Below w.heap.size w (w.alloc (.cells #[.int .i64 (up x.s), .bool x.k, .int .i64 x.n, .int .i64 x.lo, .int .i64 x.hi, .int .i64 (up x.p)] 53)) := (by repeat (first | exact Below.refl _ _ | (refine Below.drew ?_) | (refine below_drewN ?_ _) | (refine Below.setCell ?_ (by first | omega | (simp; done) | (simp; omega)) _) | (refine Below.alloc ?_ (by first | omega | (simp; done) | (simp; omega)) _) | (refine Below.trans ?_ (Below.mono (by assumption) (by first | omega | (simp; done) | (simp; omega))))))
        go_enter Try.func72, Try.ntmps72
        go_upto_region 1 with fail
        go_name_world W hW
        rw [hW] at x0 xb
        clear hW
        obtain ⟨N, hN⟩ : ∃ N, N = w.heap.size := ⟨_, rfl⟩
        rw [← hN] at x0 xb ⊢
        have HN : Hid (N = w.heap.size) := hN
        clear hN
        have HA := hide (And.intro x0 xb)
        clear x0 xb
        have a0 := HA.out.1.c0
        have a1 := HA.out.1.c1
        have a2 := HA.out.1.c2
        have a3 := HA.out.1.c3
        have a4 := HA.out.1.c4
        have a5 := HA.out.1.c5
        go_wp2_with (first | (go_at_call 119; refine (c1 _).mono ?_; rintro e w1 ⟨rfl, hb1⟩; have HB := hide (And.intro (HA.out.1.keep hb1) (HA.out.2.trans (hb1.mono (Nat.le_of_lt HA.out.1.lt)))); clear HA hb1 a0 a1 a2 a3 a4 a5; have HA := HB; clear HB; have a0 := HA.out.1.c0; have a1 := HA.out.1.c1; have a2 := HA.out.1.c2; have a3 := HA.out.1.c3; have a4 := HA.out.1.c4; have a5 := HA.out.1.c5) | (go_at_call 120; refine (c2 _).mono ?_; rintro e w1 ⟨rfl, hb1⟩; have HB := hide (And.intro (HA.out.1.keep hb1) (HA.out.2.trans (hb1.mono (Nat.le_of_lt HA.out.1.lt)))); clear HA hb1 a0 a1 a2 a3 a4 a5; have HA := HB; clear HB; have a0 := HA.out.1.c0; have a1 := HA.out.1.c1; have a2 := HA.out.1.c2; have a3 := HA.out.1.c3; have a4 := HA.out.1.c4; have a5 := HA.out.1.c5) | (go_at_call 121; refine (c3 _).mono ?_; rintro e w1 ⟨rfl, hb1⟩; have HB := hide (And.intro (HA.out.1.keep hb1) (HA.out.2.trans (hb1.mono (Nat.le_of_lt HA.out.1.lt)))); clear HA hb1 a0 a1 a2 a3 a4 a5; have HA := HB; clear HB; have a0 := HA.out.1.c0; have a1 := HA.out.1.c1; have a2 := HA.out.1.c2; have a3 := HA.out.1.c3; have a4 := HA.out.1.c4; have a5 := HA.out.1.c5) | (go_at_call 122; refine (c4 _).mono ?_; rintro e w1 ⟨rfl, hb1⟩; have HB := hide (And.intro (HA.out.1.keep hb1) (HA.out.2.trans (hb1.mono (Nat.le_of_lt HA.out.1.lt)))); clear HA hb1 a0 a1 a2 a3 a4 a5; have HA := HB; clear HB; have a0 := HA.out.1.c0; have a1 := HA.out.1.c1; have a2 := HA.out.1.c2; have a3 := HA.out.1.c3; have a4 := HA.out.1.c4; have a5 := HA.out.1.c5))
        clear c1 c2 c3 c4
        go_ret
        exact ⟨by rw [HR.out]; rfl, by rw [← HN.out]; exact HA.out.2⟩
      · have x0 : Br (w.alloc (.cells #[.int .i64 (up x.s), .bool x.k, .int .i64 x.n, .int .i64 x.lo, .int .i64 x.hi, .int .i64 (up x.p)] 53)) (w.heap.size) (up x.s) x.k x.n x.lo x.hi (up x.p) := (Br.new w (up x.s) x.k x.n x.lo x.hi (up x.p) 53)
        have xb : Below w.heap.size w (w.alloc (.cells #[.int .i64 (up x.s), .bool x.k, .int .i64 x.n, .int .i64 x.lo, .int .i64 x.hi, .int .i64 (up x.p)] 53)) := (by repeat (first | exact Below.refl _ _ | (refine Below.drew ?_) | (refine below_drewN ?_ _) | (refine Below.setCell ?_ (by first | omega | (simp; done) | (simp; omega)) _) | (refine Below.alloc ?_ (by first | omega | (simp; done) | (simp; omega)) _) | (refine Below.trans ?_ (Below.mono (by assumption) (by first | omega | (simp; done) | (simp; omega))))))
        go_enter Try.func72, Try.ntmps72
        go_upto_region 1 with fail
        go_name_world W hW
        rw [hW] at x0 xb
        clear hW
        obtain ⟨N, hN⟩ : ∃ N, N = w.heap.size := ⟨_, rfl⟩
        rw [← hN] at x0 xb ⊢
        have HN : Hid (N = w.heap.size) := hN
        clear hN
        have HA := hide (And.intro x0 xb)
        clear x0 xb
        have a0 := HA.out.1.c0
        have a1 := HA.out.1.c1
        have a2 := HA.out.1.c2
        have a3 := HA.out.1.c3
        have a4 := HA.out.1.c4
        have a5 := HA.out.1.c5
        go_wp2_with (first | (go_at_call 119; refine (c1 _).mono ?_; rintro e w1 ⟨rfl, hb1⟩; have HB := hide (And.intro (HA.out.1.keep hb1) (HA.out.2.trans (hb1.mono (Nat.le_of_lt HA.out.1.lt)))); clear HA hb1 a0 a1 a2 a3 a4 a5; have HA := HB; clear HB; have a0 := HA.out.1.c0; have a1 := HA.out.1.c1; have a2 := HA.out.1.c2; have a3 := HA.out.1.c3; have a4 := HA.out.1.c4; have a5 := HA.out.1.c5) | (go_at_call 120; refine (c2 _).mono ?_; rintro e w1 ⟨rfl, hb1⟩; have HB := hide (And.intro (HA.out.1.keep hb1) (HA.out.2.trans (hb1.mono (Nat.le_of_lt HA.out.1.lt)))); clear HA hb1 a0 a1 a2 a3 a4 a5; have HA := HB; clear HB; have a0 := HA.out.1.c0; have a1 := HA.out.1.c1; have a2 := HA.out.1.c2; have a3 := HA.out.1.c3; have a4 := HA.out.1.c4; have a5 := HA.out.1.c5) | (go_at_call 121; refine (c3 _).mono ?_; rintro e w1 ⟨rfl, hb1⟩; have HB := hide (And.intro (HA.out.1.keep hb1) (HA.out.2.trans (hb1.mono (Nat.le_of_lt HA.out.1.lt)))); clear HA hb1 a0 a1 a2 a3 a4 a5; have HA := HB; clear HB; have a0 := HA.out.1.c0; have a1 := HA.out.1.c1; have a2 := HA.out.1.c2; have a3 := HA.out.1.c3; have a4 := HA.out.1.c4; have a5 := HA.out.1.c5) | (go_at_call 122; refine (c4 _).mono ?_; rintro e w1 ⟨rfl, hb1⟩; have HB := hide (And.intro (HA.out.1.keep hb1) (HA.out.2.trans (hb1.mono (Nat.le_of_lt HA.out.1.lt)))); clear HA hb1 a0 a1 a2 a3 a4 a5; have HA := HB; clear HB; have a0 := HA.out.1.c0; have a1 := HA.out.1.c1; have a2 := HA.out.1.c2; have a3 := HA.out.1.c3; have a4 := HA.out.1.c4; have a5 := HA.out.1.c5))
        clear c1 c2 c3 c4
        go_ret
        exact ⟨by rw [HR.out]; rfl, by rw [← HN.out]; exact HA.out.2⟩
set_option maxRecDepth 100000 in
set_option maxHeartbeats 16000000 in
theorem hasr_V (x : V) (n : Int) (w : World) (hn : i64 n) : Calls Try.prog 75 #[.agg #[.int .i64 (up x.s), .bool x.k, .int .i64 x.n, .int .i64 x.lo, .int .i64 x.hi, .int .i64 (up x.p)], .int .i64 n] w fun e w' => e = .returned (.bool (hasV x n)) ∧ Below w.heap.size w w' := by
  have c1 := fun w => bel0 (shasr_any (up x.s) n w)
  have c2 := fun w => bel1 (khasr_any x.k x.n n w)
  have c3 := fun w => bel1 (nhasr_any x.lo x.hi n w)
  have c4 := fun w => bel0 (phasr_any (up x.p) n hn w)
  rw [low_up] at c1 c4
  have HR : Hid (hasV x n = (hasS x.s n && (hasK x.k x.n n && (hasR x.lo x.hi n && hasP x.p n)))) := rfl
  generalize hasV x n = r at *
  generalize hasS x.s n = t1 at *
  generalize hasK x.k x.n n = t2 at *
  generalize hasR x.lo x.hi n = t3 at *
  generalize hasP x.p n = t4 at *
  clear hn
  cases t1
  · have x0 : Br (w.alloc (.cells #[.int .i64 (up x.s), .bool x.k, .int .i64 x.n, .int .i64 x.lo, .int .i64 x.hi, .int .i64 (up x.p)] 48)) (w.heap.size) (up x.s) x.k x.n x.lo x.hi (up x.p) := (Br.new w (up x.s) x.k x.n x.lo x.hi (up x.p) 48)
    have xb : Below w.heap.size w (w.alloc (.cells #[.int .i64 (up x.s), .bool x.k, .int .i64 x.n, .int .i64 x.lo, .int .i64 x.hi, .int .i64 (up x.p)] 48)) := (by repeat (first | exact Below.refl _ _ | (refine Below.drew ?_) | (refine below_drewN ?_ _) | (refine Below.setCell ?_ (by first | omega | (simp; done) | (simp; omega)) _) | (refine Below.alloc ?_ (by first | omega | (simp; done) | (simp; omega)) _) | (refine Below.trans ?_ (Below.mono (by assumption) (by first | omega | (simp; done) | (simp; omega))))))
    go_enter Try.func75, Try.ntmps75
    go_upto_region 1 with fail
    go_name_world W hW
    rw [hW] at x0 xb
    clear hW
    obtain ⟨N, hN⟩ : ∃ N, N = w.heap.size := ⟨_, rfl⟩
    rw [← hN] at x0 xb ⊢
    have HN : Hid (N = w.heap.size) := hN
    clear hN
    have HA := hide (And.intro x0 xb)
    clear x0 xb
    have a0 := HA.out.1.c0
    have a1 := HA.out.1.c1
    have a2 := HA.out.1.c2
    have a3 := HA.out.1.c3
    have a4 := HA.out.1.c4
    have a5 := HA.out.1.c5
    go_wp2_with (first | (go_at_call 124; refine (c1 _).mono ?_; rintro e w1 ⟨rfl, hb1⟩; have HB := hide (And.intro (HA.out.1.keep hb1) (HA.out.2.trans (hb1.mono (Nat.le_of_lt HA.out.1.lt)))); clear HA hb1 a0 a1 a2 a3 a4 a5; have HA := HB; clear HB; have a0 := HA.out.1.c0; have a1 := HA.out.1.c1; have a2 := HA.out.1.c2; have a3 := HA.out.1.c3; have a4 := HA.out.1.c4; have a5 := HA.out.1.c5) | (go_at_call 125; refine (c2 _).mono ?_; rintro e w1 ⟨rfl, hb1⟩; have HB := hide (And.intro (HA.out.1.keep hb1) (HA.out.2.trans (hb1.mono (Nat.le_of_lt HA.out.1.lt)))); clear HA hb1 a0 a1 a2 a3 a4 a5; have HA := HB; clear HB; have a0 := HA.out.1.c0; have a1 := HA.out.1.c1; have a2 := HA.out.1.c2; have a3 := HA.out.1.c3; have a4 := HA.out.1.c4; have a5 := HA.out.1.c5) | (go_at_call 126; refine (c3 _).mono ?_; rintro e w1 ⟨rfl, hb1⟩; have HB := hide (And.intro (HA.out.1.keep hb1) (HA.out.2.trans (hb1.mono (Nat.le_of_lt HA.out.1.lt)))); clear HA hb1 a0 a1 a2 a3 a4 a5; have HA := HB; clear HB; have a0 := HA.out.1.c0; have a1 := HA.out.1.c1; have a2 := HA.out.1.c2; have a3 := HA.out.1.c3; have a4 := HA.out.1.c4; have a5 := HA.out.1.c5) | (go_at_call 127; refine (c4 _).mono ?_; rintro e w1 ⟨rfl, hb1⟩; have HB := hide (And.intro (HA.out.1.keep hb1) (HA.out.2.trans (hb1.mono (Nat.le_of_lt HA.out.1.lt)))); clear HA hb1 a0 a1 a2 a3 a4 a5; have HA := HB; clear HB; have a0 := HA.out.1.c0; have a1 := HA.out.1.c1; have a2 := HA.out.1.c2; have a3 := HA.out.1.c3; have a4 := HA.out.1.c4; have a5 := HA.out.1.c5))
    clear c1 c2 c3 c4
    go_ret
    exact ⟨by rw [HR.out]; rfl, by rw [← HN.out]; exact HA.out.2⟩
  · cases t2
    · have x0 : Br (w.alloc (.cells #[.int .i64 (up x.s), .bool x.k, .int .i64 x.n, .int .i64 x.lo, .int .i64 x.hi, .int .i64 (up x.p)] 48)) (w.heap.size) (up x.s) x.k x.n x.lo x.hi (up x.p) := (Br.new w (up x.s) x.k x.n x.lo x.hi (up x.p) 48)
      have xb : Below w.heap.size w (w.alloc (.cells #[.int .i64 (up x.s), .bool x.k, .int .i64 x.n, .int .i64 x.lo, .int .i64 x.hi, .int .i64 (up x.p)] 48)) := (by repeat (first | exact Below.refl _ _ | (refine Below.drew ?_) | (refine below_drewN ?_ _) | (refine Below.setCell ?_ (by first | omega | (simp; done) | (simp; omega)) _) | (refine Below.alloc ?_ (by first | omega | (simp; done) | (simp; omega)) _) | (refine Below.trans ?_ (Below.mono (by assumption) (by first | omega | (simp; done) | (simp; omega))))))
      go_enter Try.func75, Try.ntmps75
      go_upto_region 1 with fail
      go_name_world W hW
      rw [hW] at x0 xb
      clear hW
      obtain ⟨N, hN⟩ : ∃ N, N = w.heap.size := ⟨_, rfl⟩
      rw [← hN] at x0 xb ⊢
      have HN : Hid (N = w.heap.size) := hN
      clear hN
      have HA := hide (And.intro x0 xb)
      clear x0 xb
      have a0 := HA.out.1.c0
      have a1 := HA.out.1.c1
      have a2 := HA.out.1.c2
      have a3 := HA.out.1.c3
      have a4 := HA.out.1.c4
      have a5 := HA.out.1.c5
      go_wp2_with (first | (go_at_call 124; refine (c1 _).mono ?_; rintro e w1 ⟨rfl, hb1⟩; have HB := hide (And.intro (HA.out.1.keep hb1) (HA.out.2.trans (hb1.mono (Nat.le_of_lt HA.out.1.lt)))); clear HA hb1 a0 a1 a2 a3 a4 a5; have HA := HB; clear HB; have a0 := HA.out.1.c0; have a1 := HA.out.1.c1; have a2 := HA.out.1.c2; have a3 := HA.out.1.c3; have a4 := HA.out.1.c4; have a5 := HA.out.1.c5) | (go_at_call 125; refine (c2 _).mono ?_; rintro e w1 ⟨rfl, hb1⟩; have HB := hide (And.intro (HA.out.1.keep hb1) (HA.out.2.trans (hb1.mono (Nat.le_of_lt HA.out.1.lt)))); clear HA hb1 a0 a1 a2 a3 a4 a5; have HA := HB; clear HB; have a0 := HA.out.1.c0; have a1 := HA.out.1.c1; have a2 := HA.out.1.c2; have a3 := HA.out.1.c3; have a4 := HA.out.1.c4; have a5 := HA.out.1.c5) | (go_at_call 126; refine (c3 _).mono ?_; rintro e w1 ⟨rfl, hb1⟩; have HB := hide (And.intro (HA.out.1.keep hb1) (HA.out.2.trans (hb1.mono (Nat.le_of_lt HA.out.1.lt)))); clear HA hb1 a0 a1 a2 a3 a4 a5; have HA := HB; clear HB; have a0 := HA.out.1.c0; have a1 := HA.out.1.c1; have a2 := HA.out.1.c2; have a3 := HA.out.1.c3; have a4 := HA.out.1.c4; have a5 := HA.out.1.c5) | (go_at_call 127; refine (c4 _).mono ?_; rintro e w1 ⟨rfl, hb1⟩; have HB := hide (And.intro (HA.out.1.keep hb1) (HA.out.2.trans (hb1.mono (Nat.le_of_lt HA.out.1.lt)))); clear HA hb1 a0 a1 a2 a3 a4 a5; have HA := HB; clear HB; have a0 := HA.out.1.c0; have a1 := HA.out.1.c1; have a2 := HA.out.1.c2; have a3 := HA.out.1.c3; have a4 := HA.out.1.c4; have a5 := HA.out.1.c5))
      clear c1 c2 c3 c4
      go_ret
      exact ⟨by rw [HR.out]; rfl, by rw [← HN.out]; exact HA.out.2⟩
    · cases t3
      · have x0 : Br (w.alloc (.cells #[.int .i64 (up x.s), .bool x.k, .int .i64 x.n, .int .i64 x.lo, .int .i64 x.hi, .int .i64 (up x.p)] 48)) (w.heap.size) (up x.s) x.k x.n x.lo x.hi (up x.p) := (Br.new w (up x.s) x.k x.n x.lo x.hi (up x.p) 48)
        have xb : Below w.heap.size w (w.alloc (.cells #[.int .i64 (up x.s), .bool x.k, .int .i64 x.n, .int .i64 x.lo, .int .i64 x.hi, .int .i64 (up x.p)] 48)) := (by repeat (first | exact Below.refl _ _ | (refine Below.drew ?_) | (refine below_drewN ?_ _) | (refine Below.setCell ?_ (by first | omega | (simp; done) | (simp; omega)) _) | (refine Below.alloc ?_ (by first | omega | (simp; done) | (simp; omega)) _) | (refine Below.trans ?_ (Below.mono (by assumption) (by first | omega | (simp; done) | (simp; omega))))))
        go_enter Try.func75, Try.ntmps75
        go_upto_region 1 with fail
        go_name_world W hW
        rw [hW] at x0 xb
        clear hW
        obtain ⟨N, hN⟩ : ∃ N, N = w.heap.size := ⟨_, rfl⟩
        rw [← hN] at x0 xb ⊢
        have HN : Hid (N = w.heap.size) := hN
        clear hN
        have HA := hide (And.intro x0 xb)
        clear x0 xb
        have a0 := HA.out.1.c0
        have a1 := HA.out.1.c1
        have a2 := HA.out.1.c2
        have a3 := HA.out.1.c3
        have a4 := HA.out.1.c4
        have a5 := HA.out.1.c5
        go_wp2_with (first | (go_at_call 124; refine (c1 _).mono ?_; rintro e w1 ⟨rfl, hb1⟩; have HB := hide (And.intro (HA.out.1.keep hb1) (HA.out.2.trans (hb1.mono (Nat.le_of_lt HA.out.1.lt)))); clear HA hb1 a0 a1 a2 a3 a4 a5; have HA := HB; clear HB; have a0 := HA.out.1.c0; have a1 := HA.out.1.c1; have a2 := HA.out.1.c2; have a3 := HA.out.1.c3; have a4 := HA.out.1.c4; have a5 := HA.out.1.c5) | (go_at_call 125; refine (c2 _).mono ?_; rintro e w1 ⟨rfl, hb1⟩; have HB := hide (And.intro (HA.out.1.keep hb1) (HA.out.2.trans (hb1.mono (Nat.le_of_lt HA.out.1.lt)))); clear HA hb1 a0 a1 a2 a3 a4 a5; have HA := HB; clear HB; have a0 := HA.out.1.c0; have a1 := HA.out.1.c1; have a2 := HA.out.1.c2; have a3 := HA.out.1.c3; have a4 := HA.out.1.c4; have a5 := HA.out.1.c5) | (go_at_call 126; refine (c3 _).mono ?_; rintro e w1 ⟨rfl, hb1⟩; have HB := hide (And.intro (HA.out.1.keep hb1) (HA.out.2.trans (hb1.mono (Nat.le_of_lt HA.out.1.lt)))); clear HA hb1 a0 a1 a2 a3 a4 a5; have HA := HB; clear HB; have a0 := HA.out.1.c0; have a1 := HA.out.1.c1; have a2 := HA.out.1.c2; have a3 := HA.out.1.c3; have a4 := HA.out.1.c4; have a5 := HA.out.1.c5) | (go_at_call 127; refine (c4 _).mono ?_; rintro e w1 ⟨rfl, hb1⟩; have HB := hide (And.intro (HA.out.1.keep hb1) (HA.out.2.trans (hb1.mono (Nat.le_of_lt HA.out.1.lt)))); clear HA hb1 a0 a1 a2 a3 a4 a5; have HA := HB; clear HB; have a0 := HA.out.1.c0; have a1 := HA.out.1.c1; have a2 := HA.out.1.c2; have a3 := HA.out.1.c3; have a4 := HA.out.1.c4; have a5 := HA.out.1.c5))
        clear c1 c2 c3 c4
        go_ret
        exact ⟨by rw [HR.out]; rfl, by rw [← HN.out]; exact HA.out.2⟩
      · have x0 : Br (w.alloc (.cells #[.int .i64 (up x.s), .bool x.k, .int .i64 x.n, .int .i64 x.lo, .int .i64 x.hi, .int .i64 (up x.p)] 48)) (w.heap.size) (up x.s) x.k x.n x.lo x.hi (up x.p) := (Br.new w (up x.s) x.k x.n x.lo x.hi (up x.p) 48)
        have xb : Below w.heap.size w (w.alloc (.cells #[.int .i64 (up x.s), .bool x.k, .int .i64 x.n, .int .i64 x.lo, .int .i64 x.hi, .int .i64 (up x.p)] 48)) := (by repeat (first | exact Below.refl _ _ | (refine Below.drew ?_) | (refine below_drewN ?_ _) | (refine Below.setCell ?_ (by first | omega | (simp; done) | (simp; omega)) _) | (refine Below.alloc ?_ (by first | omega | (simp; done) | (simp; omega)) _) | (refine Below.trans ?_ (Below.mono (by assumption) (by first | omega | (simp; done) | (simp; omega))))))
        go_enter Try.func75, Try.ntmps75
        go_upto_region 1 with fail
        go_name_world W hW
        rw [hW] at x0 xb
        clear hW
        obtain ⟨N, hN⟩ : ∃ N, N = w.heap.size := ⟨_, rfl⟩
        rw [← hN] at x0 xb ⊢
        have HN : Hid (N = w.heap.size) := hN
        clear hN
        have HA := hide (And.intro x0 xb)
        clear x0 xb
        have a0 := HA.out.1.c0
        have a1 := HA.out.1.c1
        have a2 := HA.out.1.c2
        have a3 := HA.out.1.c3
        have a4 := HA.out.1.c4
        have a5 := HA.out.1.c5
        go_wp2_with (first | (go_at_call 124; refine (c1 _).mono ?_; rintro e w1 ⟨rfl, hb1⟩; have HB := hide (And.intro (HA.out.1.keep hb1) (HA.out.2.trans (hb1.mono (Nat.le_of_lt HA.out.1.lt)))); clear HA hb1 a0 a1 a2 a3 a4 a5; have HA := HB; clear HB; have a0 := HA.out.1.c0; have a1 := HA.out.1.c1; have a2 := HA.out.1.c2; have a3 := HA.out.1.c3; have a4 := HA.out.1.c4; have a5 := HA.out.1.c5) | (go_at_call 125; refine (c2 _).mono ?_; rintro e w1 ⟨rfl, hb1⟩; have HB := hide (And.intro (HA.out.1.keep hb1) (HA.out.2.trans (hb1.mono (Nat.le_of_lt HA.out.1.lt)))); clear HA hb1 a0 a1 a2 a3 a4 a5; have HA := HB; clear HB; have a0 := HA.out.1.c0; have a1 := HA.out.1.c1; have a2 := HA.out.1.c2; have a3 := HA.out.1.c3; have a4 := HA.out.1.c4; have a5 := HA.out.1.c5) | (go_at_call 126; refine (c3 _).mono ?_; rintro e w1 ⟨rfl, hb1⟩; have HB := hide (And.intro (HA.out.1.keep hb1) (HA.out.2.trans (hb1.mono (Nat.le_of_lt HA.out.1.lt)))); clear HA hb1 a0 a1 a2 a3 a4 a5; have HA := HB; clear HB; have a0 := HA.out.1.c0; have a1 := HA.out.1.c1; have a2 := HA.out.1.c2; have a3 := HA.out.1.c3; have a4 := HA.out.1.c4; have a5 := HA.out.1.c5) | (go_at_call 127; refine (c4 _).mono ?_; rintro e w1 ⟨rfl, hb1⟩; have HB := hide (And.intro (HA.out.1.keep hb1) (HA.out.2.trans (hb1.mono (Nat.le_of_lt HA.out.1.lt)))); clear HA hb1 a0 a1 a2 a3 a4 a5; have HA := HB; clear HB; have a0 := HA.out.1.c0; have a1 := HA.out.1.c1; have a2 := HA.out.1.c2; have a3 := HA.out.1.c3; have a4 := HA.out.1.c4; have a5 := HA.out.1.c5))
        clear c1 c2 c3 c4
        go_ret
        exact ⟨by rw [HR.out]; rfl, by rw [← HN.out]; exact HA.out.2⟩
end Go.Proofs.Ytmhicllhjiglkaa
namespace Go.Proofs.Ytmhicllhjiglkaa
open Go.RowKit
theorem Br.b6 {w : World} {q : Nat} {x : R} (h : Br w q x.s x.k x.n x.lo x.hi x.p) : B6 w q 0 x := ⟨h.c0, h.c1, h.c2, h.c3, h.c4, h.c5⟩
theorem Br.b6v {w : World} {q : Nat} {u : V} (h : Br w q (up u.s) u.k u.n u.lo u.hi (up u.p)) : B6 w q 0 u.raw := ⟨h.c0, h.c1, h.c2, h.c3, h.c4, h.c5⟩
theorem lo_r {w : World} {B q : Nat} {T : TypeId} {r : Bool} {vs : List R} {ss : List (List Int)} {va sa : Value} {es : List Value} (hr : r = true) (h : Lo w B q T ⟨r, vs, ss⟩ va sa es) : Lo w B q T ⟨true, vs, ss⟩ va sa es := by subst hr; exact h
/-- a register's Value at the beginning -/
def argV (args : List R) (k : Nat) : R := (args[k]?).getD (ofV 0).raw
/-- how a function begins -/
def beginS (n : Nat) (args : List R) (first : Int) : S := ⟨true, (List.range n).map (argV args), (List.range n).map (fun (r : Nat) => [first + (r : Int)])⟩
theorem beginS_succ (k : Nat) (args : List R) (first : Int) : beginS (k + 1) args first = ⟨true, (beginS k args first).vs ++ [argV args k], (beginS k args first).ss ++ [[first + (k : Int)]]⟩ := by
  unfold beginS
  rw [List.range_succ, List.map_append, List.map_append]
  rfl
theorem beginS_vl (k : Nat) (args : List R) (first : Int) : (beginS k args first).vs.length = k := by simp [beginS]
theorem beginS_sl (k : Nat) (args : List R) (first : Int) : (beginS k args first).ss.length = k := by simp [beginS]
set_option maxRecDepth 100000 in
set_option maxHeartbeats 8000000 in
theorem begin_S (n : Int) (a : Option Addr) (c : Nat) (args : List R) (first : Int) (w : World) (hv : RV w a args) (hn : n ≤ 20) (hf0 : 0 ≤ first) (hf : first ≤ 4000) :
    Calls Try.prog 27 #[.int .i64 n, .slice a args.length c, .int .i64 first] w fun e w' => ∃ v, e = .returned v ∧ Rn w' w.heap.size v (beginS n.toNat args first) ∧ Below w.heap.size w w' := by
  have HV := hide hv
  clear hv
  go_enter Try.func27, Try.ntmps27
  go_upto_region 2 with fail
  go_name_world W hW
  obtain ⟨q1, h1⟩ : ∃ z9, z9 = w.heap.size + 1 := ⟨_, rfl⟩
  rw [← h1]
  obtain ⟨q0, h0⟩ : ∃ z9, z9 = w.heap.size := ⟨_, rfl⟩
  rw [← h0]
  have FQ : Hid (q0 < q1 ∧ w.heap.size ≤ q1 ∧ w.heap.size ≤ q0) := by unfold Hid; omega
  have H1 : Hid ((Bs W q0 false (.slice none 0 0) (.slice none 0 0) ∧ Fs W q0) ∧ Lo W (q1 + 1) q1 53 (beginS 0 args first) (.slice none 0 0) (.slice none 0 0) [] ∧ Below w.heap.size w W) := by
    unfold Hid
    rw [h1, h0]
    obtain ⟨B0, F0, B1, F1, u⟩ := boxes2 w _ _ _ _ _ _ _ _ W hW
    exact ⟨⟨B0, F0⟩, Lo.start _ B1 F1 (Nat.lt_succ_self _), u⟩
  clear hW h1 h0
  go_wp2_with fail
  go_loopw [12] (fun sk wr => ∃ (k : Nat) (va sa : Value) (es : List Value), sk = .int .i64 k ∧ k ≤ n.toNat ∧ Hid ((Bs wr q0 false (.slice none 0 0) (.slice none 0 0) ∧ Fs wr q0) ∧ Lo wr (q1 + 1) q1 53 (beginS k args first) va sa es ∧ Below w.heap.size w wr)) (fun sk _ => n.toNat - (intOf sk).toNat)
  case atStart => exact ⟨0, _, _, _, rfl, Nat.zero_le _, H1.out⟩
  case round =>
    obtain ⟨k, va, sa, es, rfl, hk, h4⟩ := hrel
    clear H1
    by_cases hkn : (k : Int) < n
    · have hk20 : (k : Int) ≤ 20 := by omega
      have cO := fun w => of_V 0 w
      have HB : Hid (beginS (k + 1) args first = ⟨true, (beginS k args first).vs ++ [argV args k], (beginS k args first).ss ++ [[first + k]]⟩) := beginS_succ k args first
      have hsl : (beginS k args first).vs.length ≤ 1000000 ∧ (beginS k args first).ss.length ≤ 1000000 := by rw [beginS_vl, beginS_sl]; omega
      go_upto_if 19 with (go_at_call 41; refine (cO _).mono ?_; rintro e wA ⟨rfl, hA⟩)
      go_name_world W6 hW6
      obtain ⟨nq, hnq⟩ : ∃ z9, z9 = wA.heap.size := ⟨_, rfl⟩
      rw [← hnq]
      have H6 : Hid (Br W6 nq (up (ofV 0).s) (ofV 0).k (ofV 0).n (ofV 0).lo (ofV 0).hi (up (ofV 0).p) ∧ Fz W6 nq ∧ Below wA.heap.size wA W6) := by
        unfold Hid
        rw [← hW6, hnq]
        exact ⟨Br.new _ _ _ _ _ _ _ _, Fz.new _ _ _ _ _ _ _ _, (Below.refl _ _).alloc (Nat.le_refl _) _⟩
      have HN := hide hnq
      clear hW6 hnq cO
      have h5 : Hid ((Bs W6 q0 false (.slice none 0 0) (.slice none 0 0) ∧ Fs W6 q0) ∧ Lo W6 (q1 + 1) q1 53 (beginS k args first) va sa es ∧ Below w.heap.size w W6) := by
        have t1 := h4.out.1.1.keep hA
        have t2 := h4.out.2.2.trans (hA.mono h4.out.2.2.size)
        exact ⟨⟨t1.keep H6.out.2.2, (h4.out.1.2.of (hA.block q0 h4.out.1.1.lt)).of (H6.out.2.2.block q0 t1.lt)⟩, (h4.out.2.1.of hA).of H6.out.2.2, t2.trans (H6.out.2.2.mono t2.size)⟩
      have hq9 : Hid (w.heap.size ≤ nq ∧ q1 < nq ∧ q0 < nq) := by
        have := (h4.out.2.1.of hA).bx.lt
        have := h4.out.2.2.size
        have := hA.size
        have := HN.out
        have := (h4.out.1.1.keep hA).lt
        unfold Hid
        omega
      have HL6 := hide (h4.out.2.1.of hA)
      have HA1 := hide (h4.out.1.1.keep hA)
      have HA2 := hide (h4.out.1.2.of (hA.block q0 h4.out.1.1.lt))
      clear h4 hA
      go_cut [] (fun wx => Hid (B6 wx nq 0 (argV args k) ∧ ((Bs wx q0 false (.slice none 0 0) (.slice none 0 0) ∧ Fs wx q0) ∧ Lo wx (q1 + 1) q1 53 (beginS k args first) va sa es ∧ Below w.heap.size w wx)))
      case first =>
        by_cases hka : k < args.length
        · have hka2 : (k : Int) < args.length := by omega
          obtain ⟨b1, o1, x, hX, rfl, hx6⟩ := HV.out.at hka
          have HX : Hid (argV args k = x) := by unfold Hid argV; rw [hX]; rfl
          have hx7 := hx6.keep h5.out.2.2
          have d0 := hx7.c0
          have d1 := hx7.c1
          have d2 := hx7.c2
          have d3 := hx7.c3
          have d4 := hx7.c4
          have d5 := hx7.c5
          have e0 := H6.out.1.c0
          have e1 := H6.out.1.c1
          have e2 := H6.out.1.c2
          have e3 := H6.out.1.c3
          have e4 := H6.out.1.c4
          have e5 := H6.out.1.c5
          have f0 := H6.out.2.1.f0
          have f1 := H6.out.2.1.f1
          have f2 := H6.out.2.1.f2
          have f3 := H6.out.2.1.f3
          have f4 := H6.out.2.1.f4
          have f5 := H6.out.2.1.f5
          clear hX hx6 hx7
          go_wp2_with fail
          go_meet
          case rel =>
            have bq : Below wA.heap.size wA (st6 W6 nq (.int .i64 x.s) (.bool x.k) (.int .i64 x.n) (.int .i64 x.lo) (.int .i64 x.hi) (.int .i64 x.p)) := st6_below H6.out.2.2 nq (Nat.le_of_eq HN.out.symm) _ _ _ _ _ _
            have t := H6.out.1.wrote x.s x.k x.n x.lo x.hi x.p
            have t2 := st6_below h5.out.2.2 nq hq9.out.1 (.int .i64 x.s) (.bool x.k) (.int .i64 x.n) (.int .i64 x.lo) (.int .i64 x.hi) (.int .i64 x.p)
            rw [HX.out]
            exact ⟨Br.b6 t, ⟨HA1.out.keep bq, HA2.out.of (bq.block q0 HA1.out.lt)⟩, HL6.out.of bq, t2⟩
        · have hka2 : ¬ (k : Int) < args.length := by omega
          have HX : Hid (argV args k = (ofV 0).raw) := by unfold Hid argV; rw [List.getElem?_eq_none (by omega)]; rfl
          go_wp2_with fail
          go_meet
          case rel =>
            have t := H6.out.1
            rw [HX.out]
            exact ⟨Br.b6v t, h5.out⟩
      case rest =>
        clear h5 H6 HL6 HA1 HA2 hq9 HN
        have h6 := hcut
        clear hcut
        generalize argV args k = x at *
        obtain ⟨pv, hpv⟩ : ∃ z9, z9 = beginS k args first := ⟨_, rfl⟩
        have HPR : Hid (pv.r = true) := hide (by rw [hpv]; rfl)
        rw [← hpv] at h6 HB hsl
        clear hpv
        obtain ⟨hs1, hs2⟩ := hsl
        go_upto_region 8 with fail
        go_name_world W8 hW8
        rw [hW8] at h6
        clear hW8
        have e1 := h6.out.2.2.1.bx.c1
        have d0 := h6.out.1.c0
        have d1 := h6.out.1.c1
        have d2 := h6.out.1.c2
        have d3 := h6.out.1.c3
        have d4 := h6.out.1.c4
        have d5 := h6.out.1.c5
        have LA := hide (h6.out.2.2.1.of ((Below.refl _ _).alloc (Nat.le_refl _) (.cells #[.int .i64 x.s, .bool x.k, .int .i64 x.n, .int .i64 x.lo, .int .i64 x.hi, .int .i64 x.p] 53)))
        have bA : Hid (Below q1 W8 (W8.alloc (.cells #[.int .i64 x.s, .bool x.k, .int .i64 x.n, .int .i64 x.lo, .int .i64 x.hi, .int .i64 x.p] 53))) := (Below.refl _ _).alloc (Nat.le_of_lt h6.out.2.2.1.bx.lt) _
        go_upto_region 9 with (at_builtin; refine wpList_appV W8 (q1 + 1) 27 53 Try.underlying27 info53p rfl (.tmp 25) (.tmp 27) rfl _ pv.vs x h6.out.2.2.1.ov rfl rfl hs1 (Nat.succ_le_of_lt h6.out.2.2.1.bx.lt) ?_; intro a2 c2 w2 hO hg; have zb := LA.out.boxV hg; have z0 := zb.1.c0; have z1 := zb.1.c1; have z2 := zb.1.c2; have y0 := zb.2.f0; have y1 := zb.2.f1; have y2 := zb.2.f2; replace hO := hide hO; replace hg := hide hg; clear zb e1)
        go_name_world W9 hW9
        have L9 : Hid (Lo W9 (q1 + 1) q1 53 ⟨pv.r, pv.vs ++ [x], pv.ss⟩ (.slice a2 (pv.vs.length + 1) c2) sa es) := by unfold Hid; rw [← hW9]; exact LA.out.appV (by decide) (by decide) hO.out hg.out
        have b9 : Hid (Below q1 W8 W9) := by unfold Hid; rw [← hW9]; exact (LA.out.belV bA.out hg.out).setCell (p := ⟨q1, 1, none⟩) (Nat.le_refl _) _
        have BW := hide (h6.out.2.2.2.trans (b9.out.mono FQ.out.2.1))
        have KW := hide (And.intro (h6.out.2.1.1.of (b9.out.block q0 FQ.out.1)) (h6.out.2.1.2.of (b9.out.block q0 FQ.out.1)))
        clear hW9 LA bA hO hg z0 z1 z2 y0 y1 y2 d0 d1 d2 d3 d4 d5 h6 b9
        have e1 := L9.out.bx.c2
        have hw : wrap64 (first + (k : Int)) = first + k := by unfold wrap64; omega
        have HI := hide ((St.lit1 W9 (first + k)).owi (Nat.succ_le_of_lt L9.out.bx.lt))
        have u1 : Below W9.heap.size W9 (W9.alloc (.cells #[.int .i64 (first + k)] 3)) := (Below.refl _ _).alloc (Nat.le_refl _) _
        have L10 := hide (L9.out.of u1)
        have u2 : Below (W9.alloc (.cells #[.int .i64 (first + k)] 3)).heap.size (W9.alloc (.cells #[.int .i64 (first + k)] 3)) ((W9.alloc (.cells #[.int .i64 (first + k)] 3)).alloc (.cells #[.slice (some ⟨W9.heap.size, 0, none⟩) 1 1] 38)) := (Below.refl _ _).alloc (Nat.le_refl _) _
        have L11 := hide (L10.out.of u2)
        have HI2 := hide (HI.out.keep u2)
        have b11 : Hid (Below q1 W9 ((W9.alloc (.cells #[.int .i64 (first + k)] 3)).alloc (.cells #[.slice (some ⟨W9.heap.size, 0, none⟩) 1 1] 38))) := (u1.mono (Nat.le_of_lt L9.out.bx.lt)).trans (u2.mono (Nat.le_of_lt L10.out.bx.lt))
        have hel : es.length ≤ 1000000 := by have := L9.out.inn.1; dsimp only at this; omega
        have HY : Hid (((W9.alloc (.cells #[.int .i64 (first + k)] 3)).alloc (.cells #[.slice (some ⟨W9.heap.size, 0, none⟩) 1 1] 38)).cell? ⟨W9.heap.size + 1, 0, none⟩ = some (.slice (some ⟨W9.heap.size, 0, none⟩) 1 1)) := hide (by have t := (C1.new (W9.alloc (.cells #[.int .i64 (first + k)] 3)) (.slice (some ⟨W9.heap.size, 0, none⟩) 1 1) 38).c; rw [show (W9.alloc (.cells #[.int .i64 (first + k)] 3)).heap.size = W9.heap.size + 1 by simp] at t; exact t)
        clear u1 u2
        go_wp2_with (at_builtin; refine wpList_appR' ((W9.alloc (.cells #[.int .i64 (first + k)] 3)).alloc (.cells #[.slice (some ⟨W9.heap.size, 0, none⟩) 1 1] 38)) (q1 + 1) rfl (.tmp 31) (.tmp 36) rfl _ es (.slice (some ⟨W9.heap.size, 0, none⟩) 1 1) (W9.heap.size + 1) rfl L11.out.os HY.out rfl rfl hel (Nat.succ_le_of_lt L11.out.bx.lt) ?_; intro a3 c3 w3 hO hg; have zb := L11.out.boxR hg; have z0 := zb.1.c0; have z1 := zb.1.c1; have z2 := zb.1.c2; have y0 := zb.2.f0; have y1 := zb.2.f1; have y2 := zb.2.f2; replace hO := hide hO; replace hg := hide hg; clear zb e1)
        have b12 := hide (L11.out.belR b11.out hg.out)
        have b13 := hide (b12.out.setCell (p := ⟨q1, 2, none⟩) (Nat.le_refl _) (.slice a3 (es.length + 1) c3))
        exact ⟨⟨k + 1, _, _, _, by simp, by omega, ⟨⟨KW.out.1.of (b13.out.block q0 FQ.out.1), KW.out.2.of (b13.out.block q0 FQ.out.1)⟩, by rw [HB.out]; exact lo_r HPR.out (L11.out.appR (by decide) HI2.out hO.out hg.out), BW.out.trans (b13.out.mono FQ.out.2.1)⟩⟩, by simp [intOf]; omega⟩
    · have e9 : n.toNat = k := by omega
      rw [← e9] at h4
      clear e9
      obtain ⟨PV, hPV⟩ : ∃ z9, z9 = beginS n.toNat args first := ⟨_, rfl⟩
      rw [← hPV] at h4
      have hr : PV.r = true := by rw [hPV]; rfl
      have HPV := hide hPV
      clear hPV
      obtain ⟨rr, pvs, pss⟩ := PV
      dsimp only at hr
      subst hr
      obtain ⟨a7, c7, rfl, -, -⟩ := h4.out.2.1.ov.slice
      obtain ⟨a8, c8, rfl, -, -⟩ := h4.out.2.1.os.slice
      have e0 := h4.out.2.1.bx.c0
      have e1 := h4.out.2.1.bx.c1
      have e2 := h4.out.2.1.bx.c2
      have g0 := h4.out.1.1.c0
      have g1 := h4.out.1.1.c1
      have g2 := h4.out.1.1.c2
      have f0 := h4.out.1.2.f0
      have f1 := h4.out.1.2.f1
      have f2 := h4.out.1.2.f2
      have G1 := hide (h4.out.2.1.fin h4.out.1.1 (Nat.lt_succ_of_lt FQ.out.1) (Nat.ne_of_lt FQ.out.1) h4.out.2.2 FQ.out.2.2)
      clear h4
      dsimp only at e0 e1 e2
      go_wp2_with fail
      have y0 := G1.out.1.c0
      have y1 := G1.out.1.c1
      have y2 := G1.out.1.c2
      clear e0 e1 e2 g0 g1 g2 f0 f1 f2
      exact bodyPost_ret (by simp [results, Try.results27, go_sem, y0, y1, y2]; try rfl) rfl ⟨_, rfl, HPV.out ▸ G1.out.2.1, G1.out.2.2⟩
end Go.Proofs.Ytmhicllhjiglkaa
