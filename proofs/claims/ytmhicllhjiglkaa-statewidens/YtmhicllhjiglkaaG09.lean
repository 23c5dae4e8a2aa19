import Derived.Test.YtmhicllhjiglkaaG06
namespace Go.Proofs.Ytmhicllhjiglkaa
open Go.RowKit
set_option maxRecDepth 100000 in
set_option maxHeartbeats 16000000 in
theorem of_V (n : Int) (w : World) : Calls Try.prog 41 #[.int .i64 n] w fun e w' => e = .returned (.agg #[.int .i64 (up (ofV n).s), .bool (ofV n).k, .int .i64 (ofV n).n, .int .i64 (ofV n).lo, .int .i64 (ofV n).hi, .int .i64 (up (ofV n).p)]) ∧ Below w.heap.size w w' := by
  have c1 := fun w => bel0 (sof_any n w)
  have c2 := fun w => bel1 (kof_any n w)
  have c3 := fun w => bel1 (nof_any n w)
  have c4 := fun w => bel0 (pof_any n w)
  have x0 : Br (w.alloc (.cells #[.int .i64 0, .bool false, .int .i64 0, .int .i64 0, .int .i64 0, .int .i64 0] 53)) (w.heap.size) 0 false 0 0 0 0 := (Br.new w 0 false 0 0 0 0 53)
  have xf : Fz (w.alloc (.cells #[.int .i64 0, .bool false, .int .i64 0, .int .i64 0, .int .i64 0, .int .i64 0] 53)) (w.heap.size) := by simpa using Fz.new w 0 false 0 0 0 0 53
  have xb : Below w.heap.size w (w.alloc (.cells #[.int .i64 0, .bool false, .int .i64 0, .int .i64 0, .int .i64 0, .int .i64 0] 53)) := (by repeat (first | exact Below.refl _ _ | (refine Below.drew ?_) | (refine below_drewN ?_ _) | (refine Below.setCell ?_ (by first | omega | (simp; done) | (simp; omega)) _) | (refine Below.alloc ?_ (by first | omega | (simp; done) | (simp; omega)) _) | (refine Below.trans ?_ (Below.mono (by assumption) (by first | omega | (simp; done) | (simp; omega))))))
  go_enter Try.func41, Try.ntmps41
  go_upto_region 1 with fail
  go_name_world W hW
  rw [hW] at x0 xf xb
  clear hW
  obtain ⟨N, hN⟩ : ∃ N, N = w.heap.size := ⟨_, rfl⟩
  rw [← hN] at x0 xf xb ⊢
  have HN : Hid (N = w.heap.size) := hN
  clear hN
  have HA := hide (And.intro x0 (And.intro xf xb))
  clear x0 xf xb
  have a0 := HA.out.1.c0
  have a1 := HA.out.1.c1
  have a2 := HA.out.1.c2
  have a3 := HA.out.1.c3
  have a4 := HA.out.1.c4
  have a5 := HA.out.1.c5
  have f0 := HA.out.2.1.f0
  have f1 := HA.out.2.1.f1
  have f2 := HA.out.2.1.f2
  have f3 := HA.out.2.1.f3
  have f4 := HA.out.2.1.f4
  have f5 := HA.out.2.1.f5
  go_wp2_with (first | (go_at_call 81; refine (c1 _).mono ?_; rintro e w1 ⟨rfl, hb1⟩; have HB := hide (And.intro (HA.out.1.keep hb1) (And.intro (HA.out.2.1.keep HA.out.1.lt hb1) (HA.out.2.2.trans (hb1.mono (Nat.le_of_lt HA.out.1.lt))))); clear HA hb1 a0 a1 a2 a3 a4 a5 f0 f1 f2 f3 f4 f5; have HA := HB; clear HB; have a0 := HA.out.1.c0; have a1 := HA.out.1.c1; have a2 := HA.out.1.c2; have a3 := HA.out.1.c3; have a4 := HA.out.1.c4; have a5 := HA.out.1.c5; have f0 := HA.out.2.1.f0; have f1 := HA.out.2.1.f1; have f2 := HA.out.2.1.f2; have f3 := HA.out.2.1.f3; have f4 := HA.out.2.1.f4; have f5 := HA.out.2.1.f5) | (go_at_call 82; refine (c2 _).mono ?_; rintro e w1 ⟨rfl, hb1⟩; have HB := hide (And.intro (HA.out.1.keep hb1) (And.intro (HA.out.2.1.keep HA.out.1.lt hb1) (HA.out.2.2.trans (hb1.mono (Nat.le_of_lt HA.out.1.lt))))); clear HA hb1 a0 a1 a2 a3 a4 a5 f0 f1 f2 f3 f4 f5; have HA := HB; clear HB; have a0 := HA.out.1.c0; have a1 := HA.out.1.c1; have a2 := HA.out.1.c2; have a3 := HA.out.1.c3; have a4 := HA.out.1.c4; have a5 := HA.out.1.c5; have f0 := HA.out.2.1.f0; have f1 := HA.out.2.1.f1; have f2 := HA.out.2.1.f2; have f3 := HA.out.2.1.f3; have f4 := HA.out.2.1.f4; have f5 := HA.out.2.1.f5) | (go_at_call 83; refine (c3 _).mono ?_; rintro e w1 ⟨rfl, hb1⟩; have HB := hide (And.intro (HA.out.1.keep hb1) (And.intro (HA.out.2.1.keep HA.out.1.lt hb1) (HA.out.2.2.trans (hb1.mono (Nat.le_of_lt HA.out.1.lt))))); clear HA hb1 a0 a1 a2 a3 a4 a5 f0 f1 f2 f3 f4 f5; have HA := HB; clear HB; have a0 := HA.out.1.c0; have a1 := HA.out.1.c1; have a2 := HA.out.1.c2; have a3 := HA.out.1.c3; have a4 := HA.out.1.c4; have a5 := HA.out.1.c5; have f0 := HA.out.2.1.f0; have f1 := HA.out.2.1.f1; have f2 := HA.out.2.1.f2; have f3 := HA.out.2.1.f3; have f4 := HA.out.2.1.f4; have f5 := HA.out.2.1.f5) | (go_at_call 84; refine (c4 _).mono ?_; rintro e w1 ⟨rfl, hb1⟩; have HB := hide (And.intro (HA.out.1.keep hb1) (And.intro (HA.out.2.1.keep HA.out.1.lt hb1) (HA.out.2.2.trans (hb1.mono (Nat.le_of_lt HA.out.1.lt))))); clear HA hb1 a0 a1 a2 a3 a4 a5 f0 f1 f2 f3 f4 f5; have HA := HB; clear HB; have a0 := HA.out.1.c0; have a1 := HA.out.1.c1; have a2 := HA.out.1.c2; have a3 := HA.out.1.c3; have a4 := HA.out.1.c4; have a5 := HA.out.1.c5; have f0 := HA.out.2.1.f0; have f1 := HA.out.2.1.f1; have f2 := HA.out.2.1.f2; have f3 := HA.out.2.1.f3; have f4 := HA.out.2.1.f4; have f5 := HA.out.2.1.f5))
  have zw := HA.out.1.wrote (up (sg n)) true n n n (up (pr n))
  have hZ := st6_below HA.out.2.2 N (Nat.le_refl _) (.int .i64 (up (sg n))) (.bool true) (.int .i64 n) (.int .i64 n) (.int .i64 n) (.int .i64 (up (pr n)))
  clear HA c1 c2 c3 c4 a0 a1 a2 a3 a4 a5 f0 f1 f2 f3 f4 f5
  have a0 := zw.c0
  have a1 := zw.c1
  have a2 := zw.c2
  have a3 := zw.c3
  have a4 := zw.c4
  have a5 := zw.c5
  clear zw
  refine bodyPost_ret (by simp [results, Try.results41, go_sem, *]; try rfl) rfl ⟨?_, by rw [← HN.out]; exact hZ⟩
  rfl
set_option maxRecDepth 100000 in
set_option maxHeartbeats 16000000 in
theorem any_V (w : World) : Calls Try.prog 40 #[] w fun e w' => e = .returned (.agg #[.int .i64 (up anyV.s), .bool anyV.k, .int .i64 anyV.n, .int .i64 anyV.lo, .int .i64 anyV.hi, .int .i64 (up anyV.p)]) ∧ Below w.heap.size w w' := by
  have c1 := fun w => bel1 (kany_any w)
  have c2 := fun w => bel1 (nany_any w)
  have x0 : Br (w.alloc (.cells #[.int .i64 0, .bool false, .int .i64 0, .int .i64 0, .int .i64 0, .int .i64 0] 53)) (w.heap.size) 0 false 0 0 0 0 := (Br.new w 0 false 0 0 0 0 53)
  have xf : Fz (w.alloc (.cells #[.int .i64 0, .bool false, .int .i64 0, .int .i64 0, .int .i64 0, .int .i64 0] 53)) (w.heap.size) := by simpa using Fz.new w 0 false 0 0 0 0 53
  have xb : Below w.heap.size w (w.alloc (.cells #[.int .i64 0, .bool false, .int .i64 0, .int .i64 0, .int .i64 0, .int .i64 0] 53)) := (by repeat (first | exact Below.refl _ _ | (refine Below.drew ?_) | (refine below_drewN ?_ _) | (refine Below.setCell ?_ (by first | omega | (simp; done) | (simp; omega)) _) | (refine Below.alloc ?_ (by first | omega | (simp; done) | (simp; omega)) _) | (refine Below.trans ?_ (Below.mono (by assumption) (by first | omega | (simp; done) | (simp; omega))))))
  go_enter Try.func40, Try.ntmps40
  go_upto_region 1 with fail
  go_name_world W hW
  rw [hW] at x0 xf xb
  clear hW
  obtain ⟨N, hN⟩ : ∃ N, N = w.heap.size := ⟨_, rfl⟩
  rw [← hN] at x0 xf xb ⊢
  have HN : Hid (N = w.heap.size) := hN
  clear hN
  have HA := hide (And.intro x0 (And.intro xf xb))
  clear x0 xf xb
  have a0 := HA.out.1.c0
  have a1 := HA.out.1.c1
  have a2 := HA.out.1.c2
  have a3 := HA.out.1.c3
  have a4 := HA.out.1.c4
  have a5 := HA.out.1.c5
  have f0 := HA.out.2.1.f0
  have f1 := HA.out.2.1.f1
  have f2 := HA.out.2.1.f2
  have f3 := HA.out.2.1.f3
  have f4 := HA.out.2.1.f4
  have f5 := HA.out.2.1.f5
  go_wp2_with (first | (go_at_call 79; refine (c1 _).mono ?_; rintro e w1 ⟨rfl, hb1⟩; have HB := hide (And.intro (HA.out.1.keep hb1) (And.intro (HA.out.2.1.keep HA.out.1.lt hb1) (HA.out.2.2.trans (hb1.mono (Nat.le_of_lt HA.out.1.lt))))); clear HA hb1 a0 a1 a2 a3 a4 a5 f0 f1 f2 f3 f4 f5; have HA := HB; clear HB; have a0 := HA.out.1.c0; have a1 := HA.out.1.c1; have a2 := HA.out.1.c2; have a3 := HA.out.1.c3; have a4 := HA.out.1.c4; have a5 := HA.out.1.c5; have f0 := HA.out.2.1.f0; have f1 := HA.out.2.1.f1; have f2 := HA.out.2.1.f2; have f3 := HA.out.2.1.f3; have f4 := HA.out.2.1.f4; have f5 := HA.out.2.1.f5) | (go_at_call 80; refine (c2 _).mono ?_; rintro e w1 ⟨rfl, hb1⟩; have HB := hide (And.intro (HA.out.1.keep hb1) (And.intro (HA.out.2.1.keep HA.out.1.lt hb1) (HA.out.2.2.trans (hb1.mono (Nat.le_of_lt HA.out.1.lt))))); clear HA hb1 a0 a1 a2 a3 a4 a5 f0 f1 f2 f3 f4 f5; have HA := HB; clear HB; have a0 := HA.out.1.c0; have a1 := HA.out.1.c1; have a2 := HA.out.1.c2; have a3 := HA.out.1.c3; have a4 := HA.out.1.c4; have a5 := HA.out.1.c5; have f0 := HA.out.2.1.f0; have f1 := HA.out.2.1.f1; have f2 := HA.out.2.1.f2; have f3 := HA.out.2.1.f3; have f4 := HA.out.2.1.f4; have f5 := HA.out.2.1.f5))
  have zw := HA.out.1.wrote 7 false 0 (-9223372036854775808) 9223372036854775807 3
  have hZ := st6_below HA.out.2.2 N (Nat.le_refl _) (.int .i64 7) (.bool false) (.int .i64 0) (.int .i64 (-9223372036854775808)) (.int .i64 9223372036854775807) (.int .i64 3)
  clear HA c1 c2 a0 a1 a2 a3 a4 a5 f0 f1 f2 f3 f4 f5
  have a0 := zw.c0
  have a1 := zw.c1
  have a2 := zw.c2
  have a3 := zw.c3
  have a4 := zw.c4
  have a5 := zw.c5
  clear zw
  refine bodyPost_ret (by simp [results, Try.results40, go_sem, *]; try rfl) rfl ⟨?_, by rw [← HN.out]; exact hZ⟩
  rfl
def rightR (s : Int) (k : Bool) (n lo hi p : Int) : Bool := (decide (1 ≤ s) && decide (s ≤ 7)) && (rightK k n && (decide (lo ≤ hi) && (decide (1 ≤ p) && decide (p ≤ 3))))
set_option maxRecDepth 100000 in
set_option maxHeartbeats 16000000 in
theorem right_V (s : Int) (k : Bool) (n lo hi p : Int) (w : World) : Calls Try.prog 59 #[.agg #[.int .i64 s, .bool k, .int .i64 n, .int .i64 lo, .int .i64 hi, .int .i64 p]] w fun e w' => e = .returned (.bool (rightR s k n lo hi p)) ∧ Below w.heap.size w w' := by
  have c1 := fun w => bel0 (sright_any s w)
  have c2 := fun w => bel1 (kright_any k n w)
  have c3 := fun w => bel1 (nright_any lo hi w)
  have c4 := fun w => bel0 (pright_any p w)
  have HR : Hid (rightR s k n lo hi p = ((decide (1 ≤ s) && decide (s ≤ 7)) && (rightK k n && (decide (lo ≤ hi) && (decide (1 ≤ p) && decide (p ≤ 3)))))) := rfl
  generalize rightR s k n lo hi p = r at *
  generalize (decide (1 ≤ s) && decide (s ≤ 7)) = t1 at *
  generalize rightK k n = t2 at *
  generalize decide (lo ≤ hi) = t3 at *
  generalize (decide (1 ≤ p) && decide (p ≤ 3)) = t4 at *
  cases t1
  · have x0 : Br (w.alloc (.cells #[.int .i64 s, .bool k, .int .i64 n, .int .i64 lo, .int .i64 hi, .int .i64 p] 53)) (w.heap.size) s k n lo hi p := (Br.new w s k n lo hi p 53)
    have xb : Below w.heap.size w (w.alloc (.cells #[.int .i64 s, .bool k, .int .i64 n, .int .i64 lo, .int .i64 hi, .int .i64 p] 53)) := (by repeat (first | exact Below.refl _ _ | (refine Below.drew ?_) | (refine below_drewN ?_ _) | (refine Below.setCell ?_ (by first | omega | (simp; done) | (simp; omega)) _) | (refine Below.alloc ?_ (by first | omega | (simp; done) | (simp; omega)) _) | (refine Below.trans ?_ (Below.mono (by assumption) (by first | omega | (simp; done) | (simp; omega))))))
    go_enter Try.func59, Try.ntmps59
    go_upto_region 1 with fail
    go_name_world W hW
    rw [hW] at x0 xb
    clear hW
    obtain ⟨N, hN⟩ : ∃ N, N = w.heap.size := ⟨_, rfl⟩
    rw [← hN] at x0 xb ⊢
    have HN : Hid (N = w.heap.size) := hN
    clear hN
    have HA := hide (And.intro x0 xb)
    clear x0 xb
    have a0 := HA.out.1.c0
    have a1 := HA.out.1.c1
    have a2 := HA.out.1.c2
    have a3 := HA.out.1.c3
    have a4 := HA.out.1.c4
    have a5 := HA.out.1.c5
    go_wp2_with (first | (go_at_call 104; refine (c1 _).mono ?_; rintro e w1 ⟨rfl, hb1⟩; have HB := hide (And.intro (HA.out.1.keep hb1) (HA.out.2.trans (hb1.mono (Nat.le_of_lt HA.out.1.lt)))); clear HA hb1 a0 a1 a2 a3 a4 a5; have HA := HB; clear HB; have a0 := HA.out.1.c0; have a1 := HA.out.1.c1; have a2 := HA.out.1.c2; have a3 := HA.out.1.c3; have a4 := HA.out.1.c4; have a5 := HA.out.1.c5) | (go_at_call 105; refine (c2 _).mono ?_; rintro e w1 ⟨rfl, hb1⟩; have HB := hide (And.intro (HA.out.1.keep hb1) (HA.out.2.trans (hb1.mono (Nat.le_of_lt HA.out.1.lt)))); clear HA hb1 a0 a1 a2 a3 a4 a5; have HA := HB; clear HB; have a0 := HA.out.1.c0; have a1 := HA.out.1.c1; have a2 := HA.out.1.c2; have a3 := HA.out.1.c3; have a4 := HA.out.1.c4; have a5 := HA.out.1.c5) | (go_at_call 106; refine (c3 _).mono ?_; rintro e w1 ⟨rfl, hb1⟩; have HB := hide (And.intro (HA.out.1.keep hb1) (HA.out.2.trans (hb1.mono (Nat.le_of_lt HA.out.1.lt)))); clear HA hb1 a0 a1 a2 a3 a4 a5; have HA := HB; clear HB; have a0 := HA.out.1.c0; have a1 := HA.out.1.c1; have a2 := HA.out.1.c2; have a3 := HA.out.1.c3; have a4 := HA.out.1.c4; have a5 := HA.out.1.c5) | (go_at_call 107; refine (c4 _).mono ?_; rintro e w1 ⟨rfl, hb1⟩; have HB := hide (And.intro (HA.out.1.keep hb1) (HA.out.2.trans (hb1.mono (Nat.le_of_lt HA.out.1.lt)))); clear HA hb1 a0 a1 a2 a3 a4 a5; have HA := HB; clear HB; have a0 := HA.out.1.c0; have a1 := HA.out.1.c1; have a2 := HA.out.1.c2; have a3 := HA.out.1.c3; have a4 := HA.out.1.c4; have a5 := HA.out.1.c5))
    clear c1 c2 c3 c4
    go_ret
    exact ⟨by rw [HR.out]; rfl, by rw [← HN.out]; exact HA.out.2⟩
  · cases t2
    · have x0 : Br (w.alloc (.cells #[.int .i64 s, .bool k, .int .i64 n, .int .i64 lo, .int .i64 hi, .int .i64 p] 53)) (w.heap.size) s k n lo hi p := (Br.new w s k n lo hi p 53)
      have xb : Below w.heap.size w (w.alloc (.cells #[.int .i64 s, .bool k, .int .i64 n, .int .i64 lo, .int .i64 hi, .int .i64 p] 53)) := (by repeat (first | exact Below.refl _ _ | (refine Below.drew ?_) | (refine below_drewN ?_ _) | (refine Below.setCell ?_ (by first | omega | (simp; done) | (simp; omega)) _) | (refine Below.alloc ?_ (by first | omega | (simp; done) | (simp; omega)) _) | (refine Below.trans ?_ (Below.mono (by assumption) (by first | omega | (simp; done) | (simp; omega))))))
      go_enter Try.func59, Try.ntmps59
      go_upto_region 1 with fail
      go_name_world W hW
      rw [hW] at x0 xb
      clear hW
      obtain ⟨N, hN⟩ : ∃ N, N = w.heap.size := ⟨_, rfl⟩
      rw [← hN] at x0 xb ⊢
      have HN : Hid (N = w.heap.size) := hN
      clear hN
      have HA := hide (And.intro x0 xb)
      clear x0 xb
      have a0 := HA.out.1.c0
      have a1 := HA.out.1.c1
      have a2 := HA.out.1.c2
      have a3 := HA.out.1.c3
      have a4 := HA.out.1.c4
      have a5 := HA.out.1.c5
      go_wp2_with (first | (go_at_call 104; refine (c1 _).mono ?_; rintro e w1 ⟨rfl, hb1⟩; have HB := hide (And.intro (HA.out.1.keep hb1) (HA.out.2.trans (hb1.mono (Nat.le_of_lt HA.out.1.lt)))); clear HA hb1 a0 a1 a2 a3 a4 a5; have HA := HB; clear HB; have a0 := HA.out.1.c0; have a1 := HA.out.1.c1; have a2 := HA.out.1.c2; have a3 := HA.out.1.c3; have a4 := HA.out.1.c4; have a5 := HA.out.1.c5) | (go_at_call 105; refine (c2 _).mono ?_; rintro e w1 ⟨rfl, hb1⟩; have HB := hide (And.intro (HA.out.1.keep hb1) (HA.out.2.trans (hb1.mono (Nat.le_of_lt HA.out.1.lt)))); clear HA hb1 a0 a1 a2 a3 a4 a5; have HA := HB; clear HB; have a0 := HA.out.1.c0; have a1 := HA.out.1.c1; have a2 := HA.out.1.c2; have a3 := HA.out.1.c3; have a4 := HA.out.1.c4; have a5 := HA.out.1.c5) | (go_at_call 106; refine (c3 _).mono ?_; rintro e w1 ⟨rfl, hb1⟩; have HB := hide (And.intro (HA.out.1.keep hb1) (HA.out.2.trans (hb1.mono (Nat.le_of_lt HA.out.1.lt)))); clear HA hb1 a0 a1 a2 a3 a4 a5; have HA := HB; clear HB; have a0 := HA.out.1.c0; have a1 := HA.out.1.c1; have a2 := HA.out.1.c2; have a3 := HA.out.1.c3; have a4 := HA.out.1.c4; have a5 := HA.out.1.c5) | (go_at_call 107; refine (c4 _).mono ?_; rintro e w1 ⟨rfl, hb1⟩; have HB := hide (And.intro (HA.out.1.keep hb1) (HA.out.2.trans (hb1.mono (Nat.le_of_lt HA.out.1.lt)))); clear HA hb1 a0 a1 a2 a3 a4 a5; have HA := HB; clear HB; have a0 := HA.out.1.c0; have a1 := HA.out.1.c1; have a2 := HA.out.1.c2; have a3 := HA.out.1.c3; have a4 := HA.out.1.c4; have a5 := HA.out.1.c5))
      clear c1 c2 c3 c4
      go_ret
      exact ⟨by rw [HR.out]; rfl, by rw [← HN.out]; exact HA.out.2⟩
    · cases t3
      · have x0 : Br (w.alloc (.cells #[.int .i64 s, .bool k, .int .i64 n, .int .i64 lo, .int .i64 hi, .int .i64 p] 53)) (w.heap.size) s k n lo hi p := (Br.new w s k n lo hi p 53)
        have xb : Below w.heap.size w (w.alloc (.cells #[.int .i64 s, .bool k, .int .i64 n, .int .i64 lo, .int .i64 hi, .int .i64 p] 53)) := (by repeat (first | exact Below.refl _ _ | (refine Below.drew ?_) | (refine below_drewN ?_ _) | (refine Below.setCell ?_ (by first | omega | (simp; done) | (simp; omega)) _) | (refine Below.alloc ?_ (by first | omega | (simp; done) | (simp; omega)) _) | (refine Below.trans ?_ (Below.mono (by assumption) (by first | omega | (simp; done) | (simp; omega))))))
        go_enter Try.func59, Try.ntmps59
        go_upto_region 1 with fail
        go_name_world W hW
        rw [hW] at x0 xb
        clear hW
        obtain ⟨N, hN⟩ : ∃ N, N = w.heap.size := ⟨_, rfl⟩
        rw [← hN] at x0 xb ⊢
        have HN : Hid (N = w.heap.size) := hN
        clear hN
        have HA := hide (And.intro x0 xb)
        clear x0 xb
        have a0 := HA.out.1.c0
        have a1 := HA.out.1.c1
        have a2 := HA.out.1.c2
        have a3 := HA.out.1.c3
        have a4 := HA.out.1.c4
        have a5 := HA.out.1.c5
        go_wp2_with (first | (go_at_call 104; refine (c1 _).mono ?_; rintro e w1 ⟨rfl, hb1⟩; have HB := hide (And.intro (HA.out.1.keep hb1) (HA.out.2.trans (hb1.mono (Nat.le_of_lt HA.out.1.lt)))); clear HA hb1 a0 a1 a2 a3 a4 a5; have HA := HB; clear HB; have a0 := HA.out.1.c0; have a1 := HA.out.1.c1; have a2 := HA.out.1.c2; have a3 := HA.out.1.c3; have a4 := HA.out.1.c4; have a5 := HA.out.1.c5) | (go_at_call 105; refine (c2 _).mono ?_; rintro e w1 ⟨rfl, hb1⟩; have HB := hide (And.intro (HA.out.1.keep hb1) (HA.out.2.trans (hb1.mono (Nat.le_of_lt HA.out.1.lt)))); clear HA hb1 a0 a1 a2 a3 a4 a5; have HA := HB; clear HB; have a0 := HA.out.1.c0; have a1 := HA.out.1.c1; have a2 := HA.out.1.c2; have a3 := HA.out.1.c3; have a4 := HA.out.1.c4; have a5 := HA.out.1.c5) | (go_at_call 106; refine (c3 _).mono ?_; rintro e w1 ⟨rfl, hb1⟩; have HB := hide (And.intro (HA.out.1.keep hb1) (HA.out.2.trans (hb1.mono (Nat.le_of_lt HA.out.1.lt)))); clear HA hb1 a0 a1 a2 a3 a4 a5; have HA := HB; clear HB; have a0 := HA.out.1.c0; have a1 := HA.out.1.c1; have a2 := HA.out.1.c2; have a3 := HA.out.1.c3; have a4 := HA.out.1.c4; have a5 := HA.out.1.c5) | (go_at_call 107; refine (c4 _).mono ?_; rintro e w1 ⟨rfl, hb1⟩; have HB := hide (And.intro (HA.out.1.keep hb1) (HA.out.2.trans (hb1.mono (Nat.le_of_lt HA.out.1.lt)))); clear HA hb1 a0 a1 a2 a3 a4 a5; have HA := HB; clear HB; have a0 := HA.out.1.c0; have a1 := HA.out.1.c1; have a2 := HA.out.1.c2; have a3 := HA.out.1.c3; have a4 := HA.out.1.c4; have a5 := HA.out.1.c5))
        clear c1 c2 c3 c4
        go_ret
        exact ⟨by rw [HR.out]; rfl, by rw [← HN.out]; exact HA.out.2⟩
      · have x0 : Br (w.alloc (.cells #[.int .i64 s, .bool k, .int .i64 n, .int .i64 lo, .int .i64 hi, .int .i64 p] 53)) (w.heap.size) s k n lo hi p := (Br.new w s k n lo hi p 53)
        have xb : Below w.heap.size w (w.alloc (.cells #[.int .i64 s, .bool k, .int .i64 n, .int .i64 lo, .int .i64 hi, .int .i64 p] 53)) := (by repeat (first | exact Below.refl _ _ | (refine Below.drew ?_) | (refine below_drewN ?_ _) | (refine Below.setCell ?_ (by first | omega | (simp; done) | (simp; omega)) _) | (refine Below.alloc ?_ (by first | omega | (simp; done) | (simp; omega)) _) | (refine Below.trans ?_ (Below.mono (by assumption) (by first | omega | (simp; done) | (simp; omega))))))
        go_enter Try.func59, Try.ntmps59
        go_upto_region 1 with fail
        go_name_world W hW
        rw [hW] at x0 xb
        clear hW
        obtain ⟨N, hN⟩ : ∃ N, N = w.heap.size := ⟨_, rfl⟩
        rw [← hN] at x0 xb ⊢
        have HN : Hid (N = w.heap.size) := hN
        clear hN
        have HA := hide (And.intro x0 xb)
        clear x0 xb
        have a0 := HA.out.1.c0
        have a1 := HA.out.1.c1
        have a2 := HA.out.1.c2
        have a3 := HA.out.1.c3
        have a4 := HA.out.1.c4
        have a5 := HA.out.1.c5
        go_wp2_with (first | (go_at_call 104; refine (c1 _).mono ?_; rintro e w1 ⟨rfl, hb1⟩; have HB := hide (And.intro (HA.out.1.keep hb1) (HA.out.2.trans (hb1.mono (Nat.le_of_lt HA.out.1.lt)))); clear HA hb1 a0 a1 a2 a3 a4 a5; have HA := HB; clear HB; have a0 := HA.out.1.c0; have a1 := HA.out.1.c1; have a2 := HA.out.1.c2; have a3 := HA.out.1.c3; have a4 := HA.out.1.c4; have a5 := HA.out.1.c5) | (go_at_call 105; refine (c2 _).mono ?_; rintro e w1 ⟨rfl, hb1⟩; have HB := hide (And.intro (HA.out.1.keep hb1) (HA.out.2.trans (hb1.mono (Nat.le_of_lt HA.out.1.lt)))); clear HA hb1 a0 a1 a2 a3 a4 a5; have HA := HB; clear HB; have a0 := HA.out.1.c0; have a1 := HA.out.1.c1; have a2 := HA.out.1.c2; have a3 := HA.out.1.c3; have a4 := HA.out.1.c4; have a5 := HA.out.1.c5) | (go_at_call 106; refine (c3 _).mono ?_; rintro e w1 ⟨rfl, hb1⟩; have HB := hide (And.intro (HA.out.1.keep hb1) (HA.out.2.trans (hb1.mono (Nat.le_of_lt HA.out.1.lt)))); clear HA hb1 a0 a1 a2 a3 a4 a5; have HA := HB; clear HB; have a0 := HA.out.1.c0; have a1 := HA.out.1.c1; have a2 := HA.out.1.c2; have a3 := HA.out.1.c3; have a4 := HA.out.1.c4; have a5 := HA.out.1.c5) | (go_at_call 107; refine (c4 _).mono ?_; rintro e w1 ⟨rfl, hb1⟩; have HB := hide (And.intro (HA.out.1.keep hb1) (HA.out.2.trans (hb1.mono (Nat.le_of_lt HA.out.1.lt)))); clear HA hb1 a0 a1 a2 a3 a4 a5; have HA := HB; clear HB; have a0 := HA.out.1.c0; have a1 := HA.out.1.c1; have a2 := HA.out.1.c2; have a3 := HA.out.1.c3; have a4 := HA.out.1.c4; have a5 := HA.out.1.c5))
        clear c1 c2 c3 c4
        go_ret
        exact ⟨by rw [HR.out]; rfl, by rw [← HN.out]; exact HA.out.2⟩
end Go.Proofs.Ytmhicllhjiglkaa
namespace Go.Proofs.Ytmhicllhjiglkaa
open Go.RowKit
set_option maxRecDepth 100000 in
set_option maxHeartbeats 16000000 in
theorem rightr_V (s : Int) (k : Bool) (n lo hi p : Int) (w : World) : Calls Try.prog 61 #[.agg #[.int .i64 s, .bool k, .int .i64 n, .int .i64 lo, .int .i64 hi, .int .i64 p]] w fun e w' => e = .returned (.bool (rightR s k n lo hi p)) ∧ Below w.heap.size w w' := by
  by_cases h0 : 1 ≤ s
  · by_cases h1 : s ≤ 7
    · cases k
      · by_cases hn : n = 0
        · subst hn
          by_cases h3 : lo ≤ hi
          · by_cases h4 : 1 ≤ p
            · by_cases h5 : p ≤ 3
              · have HR : Hid (rightR s false 0 lo hi p = true) := by unfold Hid rightR rightK; simp [*]
                generalize rightR s false 0 lo hi p = r at *
                have x0 : Br (w.alloc (.cells #[.int .i64 s, .bool false, .int .i64 0, .int .i64 lo, .int .i64 hi, .int .i64 p] 48)) (w.heap.size) s false 0 lo hi p := (Br.new w s false 0 lo hi p 48)
                have xb : Below w.heap.size w (w.alloc (.cells #[.int .i64 s, .bool false, .int .i64 0, .int .i64 lo, .int .i64 hi, .int .i64 p] 48)) := (by repeat (first | exact Below.refl _ _ | (refine Below.drew ?_) | (refine below_drewN ?_ _) | (refine Below.setCell ?_ (by first | omega | (simp; done) | (simp; omega)) _) | (refine Below.alloc ?_ (by first | omega | (simp; done) | (simp; omega)) _) | (refine Below.trans ?_ (Below.mono (by assumption) (by first | omega | (simp; done) | (simp; omega))))))
                go_enter Try.func61, Try.ntmps61
                go_upto_region 1 with fail
                go_name_world W hW
                rw [hW] at x0 xb
                clear hW
                obtain ⟨N, hN⟩ : ∃ N, N = w.heap.size := ⟨_, rfl⟩
                rw [← hN] at x0 xb ⊢
                have HN : Hid (N = w.heap.size) := hN
                clear hN
                have a0 := x0.c0
                have a1 := x0.c1
                have a2 := x0.c2
                have a3 := x0.c3
                have a4 := x0.c4
                have a5 := x0.c5
                clear x0
                go_wp2_with fail
                go_ret
                exact ⟨by rw [HR.out] <;> rfl, by rw [← HN.out]; exact xb⟩
              · have HR : Hid (rightR s false 0 lo hi p = false) := by unfold Hid rightR rightK; simp [*]
                generalize rightR s false 0 lo hi p = r at *
                have x0 : Br (w.alloc (.cells #[.int .i64 s, .bool false, .int .i64 0, .int .i64 lo, .int .i64 hi, .int .i64 p] 48)) (w.heap.size) s false 0 lo hi p := (Br.new w s false 0 lo hi p 48)
                have xb : Below w.heap.size w (w.alloc (.cells #[.int .i64 s, .bool false, .int .i64 0, .int .i64 lo, .int .i64 hi, .int .i64 p] 48)) := (by repeat (first | exact Below.refl _ _ | (refine Below.drew ?_) | (refine below_drewN ?_ _) | (refine Below.setCell ?_ (by first | omega | (simp; done) | (simp; omega)) _) | (refine Below.alloc ?_ (by first | omega | (simp; done) | (simp; omega)) _) | (refine Below.trans ?_ (Below.mono (by assumption) (by first | omega | (simp; done) | (simp; omega))))))
                go_enter Try.func61, Try.ntmps61
                go_upto_region 1 with fail
                go_name_world W hW
                rw [hW] at x0 xb
                clear hW
                obtain ⟨N, hN⟩ : ∃ N, N = w.heap.size := ⟨_, rfl⟩
                rw [← hN] at x0 xb ⊢
                have HN : Hid (N = w.heap.size) := hN
                clear hN
                have a0 := x0.c0
                have a1 := x0.c1
                have a2 := x0.c2
                have a3 := x0.c3
                have a4 := x0.c4
                have a5 := x0.c5
                clear x0
                go_wp2_with fail
                go_ret
                exact ⟨by rw [HR.out] <;> rfl, by rw [← HN.out]; exact xb⟩
            · have HR : Hid (rightR s false 0 lo hi p = false) := by unfold Hid rightR rightK; simp [*]
              generalize rightR s false 0 lo hi p = r at *
              have x0 : Br (w.alloc (.cells #[.int .i64 s, .bool false, .int .i64 0, .int .i64 lo, .int .i64 hi, .int .i64 p] 48)) (w.heap.size) s false 0 lo hi p := (Br.new w s false 0 lo hi p 48)
              have xb : Below w.heap.size w (w.alloc (.cells #[.int .i64 s, .bool false, .int .i64 0, .int .i64 lo, .int .i64 hi, .int .i64 p] 48)) := (by repeat (first | exact Below.refl _ _ | (refine Below.drew ?_) | (refine below_drewN ?_ _) | (refine Below.setCell ?_ (by first | omega | (simp; done) | (simp; omega)) _) | (refine Below.alloc ?_ (by first | omega | (simp; done) | (simp; omega)) _) | (refine Below.trans ?_ (Below.mono (by assumption) (by first | omega | (simp; done) | (simp; omega))))))
              go_enter Try.func61, Try.ntmps61
              go_upto_region 1 with fail
              go_name_world W hW
              rw [hW] at x0 xb
              clear hW
              obtain ⟨N, hN⟩ : ∃ N, N = w.heap.size := ⟨_, rfl⟩
              rw [← hN] at x0 xb ⊢
              have HN : Hid (N = w.heap.size) := hN
              clear hN
              have a0 := x0.c0
              have a1 := x0.c1
              have a2 := x0.c2
              have a3 := x0.c3
              have a4 := x0.c4
              have a5 := x0.c5
              clear x0
              go_wp2_with fail
              go_ret
              exact ⟨by rw [HR.out] <;> rfl, by rw [← HN.out]; exact xb⟩
          · have HR : Hid (rightR s false 0 lo hi p = false) := by unfold Hid rightR rightK; simp [*]
            generalize rightR s false 0 lo hi p = r at *
            have x0 : Br (w.alloc (.cells #[.int .i64 s, .bool false, .int .i64 0, .int .i64 lo, .int .i64 hi, .int .i64 p] 48)) (w.heap.size) s false 0 lo hi p := (Br.new w s false 0 lo hi p 48)
            have xb : Below w.heap.size w (w.alloc (.cells #[.int .i64 s, .bool false, .int .i64 0, .int .i64 lo, .int .i64 hi, .int .i64 p] 48)) := (by repeat (first | exact Below.refl _ _ | (refine Below.drew ?_) | (refine below_drewN ?_ _) | (refine Below.setCell ?_ (by first | omega | (simp; done) | (simp; omega)) _) | (refine Below.alloc ?_ (by first | omega | (simp; done) | (simp; omega)) _) | (refine Below.trans ?_ (Below.mono (by assumption) (by first | omega | (simp; done) | (simp; omega))))))
            go_enter Try.func61, Try.ntmps61
            go_upto_region 1 with fail
            go_name_world W hW
            rw [hW] at x0 xb
            clear hW
            obtain ⟨N, hN⟩ : ∃ N, N = w.heap.size := ⟨_, rfl⟩
            rw [← hN] at x0 xb ⊢
            have HN : Hid (N = w.heap.size) := hN
            clear hN
            have a0 := x0.c0
            have a1 := x0.c1
            have a2 := x0.c2
            have a3 := x0.c3
            have a4 := x0.c4
            have a5 := x0.c5
            clear x0
            go_wp2_with fail
            go_ret
            exact ⟨by rw [HR.out] <;> rfl, by rw [← HN.out]; exact xb⟩
        · have HR : Hid (rightR s false n lo hi p = false) := by unfold Hid rightR rightK; simp [*]
          generalize rightR s false n lo hi p = r at *
          have x0 : Br (w.alloc (.cells #[.int .i64 s, .bool false, .int .i64 n, .int .i64 lo, .int .i64 hi, .int .i64 p] 48)) (w.heap.size) s false n lo hi p := (Br.new w s false n lo hi p 48)
          have xb : Below w.heap.size w (w.alloc (.cells #[.int .i64 s, .bool false, .int .i64 n, .int .i64 lo, .int .i64 hi, .int .i64 p] 48)) := (by repeat (first | exact Below.refl _ _ | (refine Below.drew ?_) | (refine below_drewN ?_ _) | (refine Below.setCell ?_ (by first | omega | (simp; done) | (simp; omega)) _) | (refine Below.alloc ?_ (by first | omega | (simp; done) | (simp; omega)) _) | (refine Below.trans ?_ (Below.mono (by assumption) (by first | omega | (simp; done) | (simp; omega))))))
          go_enter Try.func61, Try.ntmps61
          go_upto_region 1 with fail
          go_name_world W hW
          rw [hW] at x0 xb
          clear hW
          obtain ⟨N, hN⟩ : ∃ N, N = w.heap.size := ⟨_, rfl⟩
          rw [← hN] at x0 xb ⊢
          have HN : Hid (N = w.heap.size) := hN
          clear hN
          have a0 := x0.c0
          have a1 := x0.c1
          have a2 := x0.c2
          have a3 := x0.c3
          have a4 := x0.c4
          have a5 := x0.c5
          clear x0
          go_wp2_with fail
          go_ret
          exact ⟨by rw [HR.out] <;> rfl, by rw [← HN.out]; exact xb⟩
      · by_cases h3 : lo ≤ hi
        · by_cases h4 : 1 ≤ p
          · by_cases h5 : p ≤ 3
            · have HR : Hid (rightR s true n lo hi p = true) := by unfold Hid rightR rightK; simp [*]
              generalize rightR s true n lo hi p = r at *
              have x0 : Br (w.alloc (.cells #[.int .i64 s, .bool true, .int .i64 n, .int .i64 lo, .int .i64 hi, .int .i64 p] 48)) (w.heap.size) s true n lo hi p := (Br.new w s true n lo hi p 48)
              have xb : Below w.heap.size w (w.alloc (.cells #[.int .i64 s, .bool true, .int .i64 n, .int .i64 lo, .int .i64 hi, .int .i64 p] 48)) := (by repeat (first | exact Below.refl _ _ | (refine Below.drew ?_) | (refine below_drewN ?_ _) | (refine Below.setCell ?_ (by first | omega | (simp; done) | (simp; omega)) _) | (refine Below.alloc ?_ (by first | omega | (simp; done) | (simp; omega)) _) | (refine Below.trans ?_ (Below.mono (by assumption) (by first | omega | (simp; done) | (simp; omega))))))
              go_enter Try.func61, Try.ntmps61
              go_upto_region 1 with fail
              go_name_world W hW
              rw [hW] at x0 xb
              clear hW
              obtain ⟨N, hN⟩ : ∃ N, N = w.heap.size := ⟨_, rfl⟩
              rw [← hN] at x0 xb ⊢
              have HN : Hid (N = w.heap.size) := hN
              clear hN
              have a0 := x0.c0
              have a1 := x0.c1
              have a2 := x0.c2
              have a3 := x0.c3
              have a4 := x0.c4
              have a5 := x0.c5
              clear x0
              go_wp2_with fail
              go_ret
              exact ⟨by rw [HR.out] <;> rfl, by rw [← HN.out]; exact xb⟩
            · have HR : Hid (rightR s true n lo hi p = false) := by unfold Hid rightR rightK; simp [*]
              generalize rightR s true n lo hi p = r at *
              have x0 : Br (w.alloc (.cells #[.int .i64 s, .bool true, .int .i64 n, .int .i64 lo, .int .i64 hi, .int .i64 p] 48)) (w.heap.size) s true n lo hi p := (Br.new w s true n lo hi p 48)
              have xb : Below w.heap.size w (w.alloc (.cells #[.int .i64 s, .bool true, .int .i64 n, .int .i64 lo, .int .i64 hi, .int .i64 p] 48)) := (by repeat (first | exact Below.refl _ _ | (refine Below.drew ?_) | (refine below_drewN ?_ _) | (refine Below.setCell ?_ (by first | omega | (simp; done) | (simp; omega)) _) | (refine Below.alloc ?_ (by first | omega | (simp; done) | (simp; omega)) _) | (refine Below.trans ?_ (Below.mono (by assumption) (by first | omega | (simp; done) | (simp; omega))))))
              go_enter Try.func61, Try.ntmps61
              go_upto_region 1 with fail
              go_name_world W hW
              rw [hW] at x0 xb
              clear hW
              obtain ⟨N, hN⟩ : ∃ N, N = w.heap.size := ⟨_, rfl⟩
              rw [← hN] at x0 xb ⊢
              have HN : Hid (N = w.heap.size) := hN
              clear hN
              have a0 := x0.c0
              have a1 := x0.c1
              have a2 := x0.c2
              have a3 := x0.c3
              have a4 := x0.c4
              have a5 := x0.c5
              clear x0
              go_wp2_with fail
              go_ret
              exact ⟨by rw [HR.out] <;> rfl, by rw [← HN.out]; exact xb⟩
          · have HR : Hid (rightR s true n lo hi p = false) := by unfold Hid rightR rightK; simp [*]
            generalize rightR s true n lo hi p = r at *
            have x0 : Br (w.alloc (.cells #[.int .i64 s, .bool true, .int .i64 n, .int .i64 lo, .int .i64 hi, .int .i64 p] 48)) (w.heap.size) s true n lo hi p := (Br.new w s true n lo hi p 48)
            have xb : Below w.heap.size w (w.alloc (.cells #[.int .i64 s, .bool true, .int .i64 n, .int .i64 lo, .int .i64 hi, .int .i64 p] 48)) := (by repeat (first | exact Below.refl _ _ | (refine Below.drew ?_) | (refine below_drewN ?_ _) | (refine Below.setCell ?_ (by first | omega | (simp; done) | (simp; omega)) _) | (refine Below.alloc ?_ (by first | omega | (simp; done) | (simp; omega)) _) | (refine Below.trans ?_ (Below.mono (by assumption) (by first | omega | (simp; done) | (simp; omega))))))
            go_enter Try.func61, Try.ntmps61
            go_upto_region 1 with fail
            go_name_world W hW
            rw [hW] at x0 xb
            clear hW
            obtain ⟨N, hN⟩ : ∃ N, N = w.heap.size := ⟨_, rfl⟩
            rw [← hN] at x0 xb ⊢
            have HN : Hid (N = w.heap.size) := hN
            clear hN
            have a0 := x0.c0
            have a1 := x0.c1
            have a2 := x0.c2
            have a3 := x0.c3
            have a4 := x0.c4
            have a5 := x0.c5
            clear x0
            go_wp2_with fail
            go_ret
            exact ⟨by rw [HR.out] <;> rfl, by rw [← HN.out]; exact xb⟩
        · have HR : Hid (rightR s true n lo hi p = false) := by unfold Hid rightR rightK; simp [*]
          generalize rightR s true n lo hi p = r at *
          have x0 : Br (w.alloc (.cells #[.int .i64 s, .bool true, .int .i64 n, .int .i64 lo, .int .i64 hi, .int .i64 p] 48)) (w.heap.size) s true n lo hi p := (Br.new w s true n lo hi p 48)
          have xb : Below w.heap.size w (w.alloc (.cells #[.int .i64 s, .bool true, .int .i64 n, .int .i64 lo, .int .i64 hi, .int .i64 p] 48)) := (by repeat (first | exact Below.refl _ _ | (refine Below.drew ?_) | (refine below_drewN ?_ _) | (refine Below.setCell ?_ (by first | omega | (simp; done) | (simp; omega)) _) | (refine Below.alloc ?_ (by first | omega | (simp; done) | (simp; omega)) _) | (refine Below.trans ?_ (Below.mono (by assumption) (by first | omega | (simp; done) | (simp; omega))))))
          go_enter Try.func61, Try.ntmps61
          go_upto_region 1 with fail
          go_name_world W hW
          rw [hW] at x0 xb
          clear hW
          obtain ⟨N, hN⟩ : ∃ N, N = w.heap.size := ⟨_, rfl⟩
          rw [← hN] at x0 xb ⊢
          have HN : Hid (N = w.heap.size) := hN
          clear hN
          have a0 := x0.c0
          have a1 := x0.c1
          have a2 := x0.c2
          have a3 := x0.c3
          have a4 := x0.c4
          have a5 := x0.c5
          clear x0
          go_wp2_with fail
          go_ret
          exact ⟨by rw [HR.out] <;> rfl, by rw [← HN.out]; exact xb⟩
    · have HR : Hid (rightR s k n lo hi p = false) := by unfold Hid rightR rightK; simp [*]
      generalize rightR s k n lo hi p = r at *
      have x0 : Br (w.alloc (.cells #[.int .i64 s, .bool k, .int .i64 n, .int .i64 lo, .int .i64 hi, .int .i64 p] 48)) (w.heap.size) s k n lo hi p := (Br.new w s k n lo hi p 48)
      have xb : Below w.heap.size w (w.alloc (.cells #[.int .i64 s, .bool k, .int .i64 n, .int .i64 lo, .int .i64 hi, .int .i64 p] 48)) := (by repeat (first | exact Below.refl _ _ | (refine Below.drew ?_) | (refine below_drewN ?_ _) | (refine Below.setCell ?_ (by first | omega | (simp; done) | (simp; omega)) _) | (refine Below.alloc ?_ (by first | omega | (simp; done) | (simp; omega)) _) | (refine Below.trans ?_ (Below.mono (by assumption) (by first | omega | (simp; done) | (simp; omega))))))
      go_enter Try.func61, Try.ntmps61
      go_upto_region 1 with fail
      go_name_world W hW
      rw [hW] at x0 xb
      clear hW
      obtain ⟨N, hN⟩ : ∃ N, N = w.heap.size := ⟨_, rfl⟩
      rw [← hN] at x0 xb ⊢
      have HN : Hid (N = w.heap.size) := hN
      clear hN
      have a0 := x0.c0
      have a1 := x0.c1
      have a2 := x0.c2
      have a3 := x0.c3
      have a4 := x0.c4
      have a5 := x0.c5
      clear x0
      go_wp2_with fail
      go_ret
      exact ⟨by rw [HR.out] <;> rfl, by rw [← HN.out]; exact xb⟩
  · have HR : Hid (rightR s k n lo hi p = false) := by unfold Hid rightR rightK; simp [*]
    generalize rightR s k n lo hi p = r at *
    have x0 : Br (w.alloc (.cells #[.int .i64 s, .bool k, .int .i64 n, .int .i64 lo, .int .i64 hi, .int .i64 p] 48)) (w.heap.size) s k n lo hi p := (Br.new w s k n lo hi p 48)
    have xb : Below w.heap.size w (w.alloc (.cells #[.int .i64 s, .bool k, .int .i64 n, .int .i64 lo, .int .i64 hi, .int .i64 p] 48)) := (by repeat (first | exact Below.refl _ _ | (refine Below.drew ?_) | (refine below_drewN ?_ _) | (refine Below.setCell ?_ (by first | omega | (simp; done) | (simp; omega)) _) | (refine Below.alloc ?_ (by first | omega | (simp; done) | (simp; omega)) _) | (refine Below.trans ?_ (Below.mono (by assumption) (by first | omega | (simp; done) | (simp; omega))))))
    go_enter Try.func61, Try.ntmps61
    go_upto_region 1 with fail
    go_name_world W hW
    rw [hW] at x0 xb
    clear hW
    obtain ⟨N, hN⟩ : ∃ N, N = w.heap.size := ⟨_, rfl⟩
    rw [← hN] at x0 xb ⊢
    have HN : Hid (N = w.heap.size) := hN
    clear hN
    have a0 := x0.c0
    have a1 := x0.c1
    have a2 := x0.c2
    have a3 := x0.c3
    have a4 := x0.c4
    have a5 := x0.c5
    clear x0
    go_wp2_with fail
    go_ret
    exact ⟨by rw [HR.out] <;> rfl, by rw [← HN.out]; exact xb⟩
end Go.Proofs.Ytmhicllhjiglkaa
namespace Go.Proofs.Ytmhicllhjiglkaa
open Go.RowKit
/-- all are Right -/
def rightL2 (sites : Int) : List R → List (List Int) → Bool
  | x :: t, l :: u => (rightR x.s x.k x.n x.lo x.hi x.p && ((decide (0 ≤ sites) && decide (sites ≤ 4096)) && rightL sites 0 l)) && rightL2 sites t u
  | _, _ => true
/-- may it be so? -/
def rightS (r : Bool) (vs : List R) (ss : List (List Int)) (regs sites : Int) : Bool :=
  if r = false then (decide (vs.length = 0) && decide (ss.length = 0)) else (decide ((vs.length : Int) = regs) && decide ((ss.length : Int) = regs)) && rightL2 sites vs ss
set_option maxRecDepth 100000 in
set_option maxHeartbeats 8000000 in
theorem right_S (a b : Option Addr) (c d : Nat) (r : Bool) (vs : List R) (ss : List (List Int)) (regs sites : Int) (w : World) (hv : RV w a vs) (hs : RR w b ss) (hl1 : vs.length ≤ 100000) (hl3 : ∀ (m : Nat) (l : List Int), ss[m]? = some l → l.length ≤ 100000) :
    Calls Try.prog 23 #[.agg #[.bool r, .slice a vs.length c, .slice b ss.length d], .int .i64 regs, .int .i64 sites] w fun e w' => e = .returned (.bool (rightS r vs ss regs sites)) ∧ Below w.heap.size w w' := by
  have HV := hide hv
  have HR := hide hs
  have HL3 := hide hl3
  have hl2 : (vs.length : Int) ≤ 100000 := by omega
  clear hv hs hl3
  cases r with
  | false =>
    by_cases h1 : vs.length = 0
    · by_cases h2 : ss.length = 0
      · have e : rightS false vs ss regs sites = true := by simp [rightS, h1, h2]
        rw [e]
        have b1 : ((vs.length : Int) == 0) = true := by simp [h1]
        have b2 : ((ss.length : Int) == 0) = true := by simp [h2]
        clear h1 h2 e
        go_enter Try.func23, Try.ntmps23
        go_wp2
        go_ret
        exact ⟨by simp, (Below.refl _ _).alloc (Nat.le_refl _) _⟩
      · have e : rightS false vs ss regs sites = false := by simp [rightS, h1, h2]
        rw [e]
        have b1 : ((vs.length : Int) == 0) = true := by simp [h1]
        have b2 : ((ss.length : Int) == 0) = false := beq_eq_false_iff_ne.2 (by omega)
        clear h1 h2 e
        go_enter Try.func23, Try.ntmps23
        go_wp2
        go_ret
        exact ⟨by simp, (Below.refl _ _).alloc (Nat.le_refl _) _⟩
    · have e : rightS false vs ss regs sites = false := by simp [rightS, h1]
      rw [e]
      have b1 : ((vs.length : Int) == 0) = false := beq_eq_false_iff_ne.2 (by omega)
      clear h1 e
      go_enter Try.func23, Try.ntmps23
      go_wp2
      go_ret
      exact ⟨by simp, (Below.refl _ _).alloc (Nat.le_refl _) _⟩
  | true =>
    by_cases h1 : (vs.length : Int) = regs
    · subst h1
      by_cases h2 : ss.length = vs.length
      · have e : rightS true vs ss vs.length sites = rightL2 sites vs ss := by simp [rightS, h2]
        rw [e]
        have b1 : ((vs.length : Int) != vs.length) = false := by simp
        have b2 : ((ss.length : Int) != vs.length) = false := by simp [h2]
        have h2' := hide h2
        clear h2 e
        go_enter Try.func23, Try.ntmps23
        go_upto_region 5 with fail
        go_name_world W hW
        obtain ⟨q0, h0⟩ : ∃ z9, z9 = w.heap.size := ⟨_, rfl⟩
        rw [← h0]
        have FQ : Hid (w.heap.size ≤ q0) := by unfold Hid; omega
        have H1 : Hid (Bs W q0 true (.slice a vs.length c) (.slice b ss.length d) ∧ Below w.heap.size w W) := by
          unfold Hid
          obtain ⟨B0, -, u⟩ := box1 w _ _ _ _ W hW
          rw [h0]
          exact ⟨B0, u⟩
        clear hW h0 b1 b2
        go_wp2_with fail
        go_loopw [34] (fun sk wr => ∃ (k : Nat), sk = .int .i64 k ∧ k ≤ vs.length ∧ Hid (Bs wr q0 true (.slice a vs.length c) (.slice b ss.length d) ∧ Below w.heap.size w wr ∧ rightL2 sites (vs.drop k) (ss.drop k) = rightL2 sites vs ss)) (fun sk _ => vs.length - (intOf sk).toNat)
        case atStart => exact ⟨0, rfl, Nat.zero_le _, H1.out.1, H1.out.2, rfl⟩
        case round =>
          obtain ⟨k, rfl, hk, h4⟩ := hrel
          clear H1
          by_cases hkv : k < vs.length
          · have hkv2 : (k : Int) < vs.length := by omega
            have hks : k < ss.length := by have := h2'.out; omega
            have hks2 : (k : Int) < ss.length := by omega
            obtain ⟨b1, o1, x, hX, rfl, hx6⟩ := HV.out.at hkv
            obtain ⟨b2, o2, l, ai, ci, hX2, rfl, hc1, hc2, hc3, hc4⟩ := HR.out.at hks
            have hl := HL3.out k l hX2
            have HD : Hid (rightL2 sites vs ss = ((rightR x.s x.k x.n x.lo x.hi x.p && ((decide (0 ≤ sites) && decide (sites ≤ 4096)) && rightL sites 0 l)) && rightL2 sites (vs.drop (k + 1)) (ss.drop (k + 1)))) := hide (by
              rw [← h4.out.2.2, List.drop_eq_getElem_cons hkv, List.drop_eq_getElem_cons hks]
              obtain ⟨_, e1⟩ := List.getElem?_eq_some_iff.1 hX
              obtain ⟨_, e2⟩ := List.getElem?_eq_some_iff.1 hX2
              rw [e1, e2]; rfl)
            have t6 := hx6.keep h4.out.2.1
            have d0 := t6.c0
            have d1 := t6.c1
            have d2 := t6.c2
            have d3 := t6.c3
            have d4 := t6.c4
            have d5 := t6.c5
            have e1 := h4.out.1.c1
            have HB := hide h4.out.1
            have HW := hide h4.out.2.1
            have HC := hide hc1
            have HI := hide hc2
            clear hX hX2 hx6 t6 h4 hc1 hc2 hc3 hc4
            have cF := fun w => right_V x.s x.k x.n x.lo x.hi x.p w
            generalize rightR x.s x.k x.n x.lo x.hi x.p = bv at *
            cases bv with
            | false =>
              have HE : Hid (rightL2 sites vs ss = false) := hide (by rw [HD.out]; rfl)
              clear HD
              go_wp2_with (go_at_call 59; refine (cF _).mono ?_; rintro e wA ⟨rfl, hA⟩; have bA := hide hA; clear hA)
              go_ret
              exact ⟨by rw [HE.out]; rfl, HW.out.trans (bA.out.mono HW.out.size)⟩
            | true =>
              have HD2 : Hid (rightL2 sites vs ss = (((decide (0 ≤ sites) && decide (sites ≤ 4096)) && rightL sites 0 l) && rightL2 sites (vs.drop (k + 1)) (ss.drop (k + 1)))) := hide (by rw [HD.out, Bool.true_and])
              clear HD
              have cB := fun w h => bright_any sites l ai ci w h (by omega)
              generalize ((decide (0 ≤ sites) && decide (sites ≤ 4096)) && rightL sites 0 l) = bb at *
              cases bb with
              | false =>
                have HE : Hid (rightL2 sites vs ss = false) := hide (by rw [HD2.out]; rfl)
                clear HD2
                go_wp2_with (first | (go_at_call 59; refine (cF _).mono ?_; rintro e wA ⟨rfl, hA⟩; have bA := hide hA; have e2 := (HB.out.keep hA).c2; have g2 := ((HW.out.trans (hA.mono HW.out.size)).cell (p := ⟨b2, o2 + k, none⟩) (World.block_lt_of_cell? w _ HC.out)).trans HC.out; clear hA cF d0 d1 d2 d3 d4 d5 e1) | (go_at_call 60; refine (cB _ (HI.out.keep' (HW.out.trans (bA.out.mono HW.out.size)))).mono ?_; rintro e wB ⟨hw, rfl⟩; obtain rfl := hw.symm))
                go_ret
                exact ⟨by rw [HE.out]; rfl, HW.out.trans (bA.out.mono HW.out.size)⟩
              | true =>
                have HE : Hid (rightL2 sites vs ss = rightL2 sites (vs.drop (k + 1)) (ss.drop (k + 1))) := hide (by rw [HD2.out, Bool.true_and])
                clear HD2
                go_wp2_with (first | (go_at_call 59; refine (cF _).mono ?_; rintro e wA ⟨rfl, hA⟩; have bA := hide hA; have e2 := (HB.out.keep hA).c2; have g2 := ((HW.out.trans (hA.mono HW.out.size)).cell (p := ⟨b2, o2 + k, none⟩) (World.block_lt_of_cell? w _ HC.out)).trans HC.out; clear hA cF d0 d1 d2 d3 d4 d5 e1) | (go_at_call 60; refine (cB _ (HI.out.keep' (HW.out.trans (bA.out.mono HW.out.size)))).mono ?_; rintro e wB ⟨hw, rfl⟩; obtain rfl := hw.symm))
                refine ⟨⟨k + 1, by simp, by omega, ⟨HB.out.keep bA.out, HW.out.trans (bA.out.mono HW.out.size), HE.out.symm⟩⟩, by simp [intOf]; omega⟩
          · have hke : k = vs.length := by omega
            subst hke
            have HE : Hid (rightL2 sites vs ss = true) := hide (by rw [← h4.out.2.2, List.drop_of_length_le (Nat.le_refl _)]; rfl)
            go_wp2_with fail
            go_ret
            exact ⟨by rw [HE.out]; rfl, h4.out.2.1⟩
      · have e : rightS true vs ss vs.length sites = false := by simp [rightS]; intro t; omega
        rw [e]
        have b1 : ((vs.length : Int) != vs.length) = false := by simp
        have b2 : ((ss.length : Int) != vs.length) = true := by rw [bne_iff_ne]; omega
        clear h2 e
        go_enter Try.func23, Try.ntmps23
        go_wp2
        go_ret
        exact ⟨by simp, (Below.refl _ _).alloc (Nat.le_refl _) _⟩
    · have e : rightS true vs ss regs sites = false := by simp [rightS, h1]
      rw [e]
      have b1 : ((vs.length : Int) != regs) = true := by rw [bne_iff_ne]; exact h1
      clear h1 e
      go_enter Try.func23, Try.ntmps23
      go_wp2
      go_ret
      exact ⟨by simp, (Below.refl _ _).alloc (Nat.le_refl _) _⟩
end Go.Proofs.Ytmhicllhjiglkaa
namespace Go.Proofs.Ytmhicllhjiglkaa
open Go.RowKit
set_option maxRecDepth 100000 in
set_option maxHeartbeats 8000000 in
theorem rightr_S (a b : Option Addr) (c d : Nat) (r : Bool) (vs : List R) (ss : List (List Int)) (regs sites : Int) (w : World) (hv : RV w a vs) (hs : RR w b ss) (hl1 : vs.length ≤ 100000) (hl3 : ∀ (m : Nat) (l : List Int), ss[m]? = some l → l.length ≤ 100000) :
    Calls Try.prog 24 #[.agg #[.bool r, .slice a vs.length c, .slice b ss.length d], .int .i64 regs, .int .i64 sites] w fun e w' => e = .returned (.bool (rightS r vs ss regs sites)) ∧ Below w.heap.size w w' := by
  have HV := hide hv
  have HR := hide hs
  have HL3 := hide hl3
  have hl2 : (vs.length : Int) ≤ 100000 := by omega
  clear hv hs hl3
  cases r with
  | false =>
    by_cases h1 : vs.length = 0
    · by_cases h2 : ss.length = 0
      · have e : rightS false vs ss regs sites = true := by simp [rightS, h1, h2]
        rw [e]
        have b1 : ((vs.length : Int) == 0) = true := by simp [h1]
        have b2 : ((ss.length : Int) == 0) = true := by simp [h2]
        clear h1 h2 e
        go_enter Try.func24, Try.ntmps24
        go_wp2
        go_ret
        exact ⟨by simp, (Below.refl _ _).alloc (Nat.le_refl _) _⟩
      · have e : rightS false vs ss regs sites = false := by simp [rightS, h1, h2]
        rw [e]
        have b1 : ((vs.length : Int) == 0) = true := by simp [h1]
        have b2 : ((ss.length : Int) == 0) = false := beq_eq_false_iff_ne.2 (by omega)
        clear h1 h2 e
        go_enter Try.func24, Try.ntmps24
        go_wp2
        go_ret
        exact ⟨by simp, (Below.refl _ _).alloc (Nat.le_refl _) _⟩
    · have e : rightS false vs ss regs sites = false := by simp [rightS, h1]
      rw [e]
      have b1 : ((vs.length : Int) == 0) = false := beq_eq_false_iff_ne.2 (by omega)
      clear h1 e
      go_enter Try.func24, Try.ntmps24
      go_wp2
      go_ret
      exact ⟨by simp, (Below.refl _ _).alloc (Nat.le_refl _) _⟩
  | true =>
    by_cases h1 : (vs.length : Int) = regs
    · subst h1
      by_cases h2 : ss.length = vs.length
      · have e : rightS true vs ss vs.length sites = rightL2 sites vs ss := by simp [rightS, h2]
        rw [e]
        have b1 : ((vs.length : Int) != vs.length) = false := by simp
        have b2 : ((ss.length : Int) != vs.length) = false := by simp [h2]
        have h2' := hide h2
        clear h2 e
        go_enter Try.func24, Try.ntmps24
        go_upto_region 5 with fail
        go_name_world W hW
        obtain ⟨q0, h0⟩ : ∃ z9, z9 = w.heap.size := ⟨_, rfl⟩
        rw [← h0]
        have FQ : Hid (w.heap.size ≤ q0) := by unfold Hid; omega
        have H1 : Hid (Bs W q0 true (.slice a vs.length c) (.slice b ss.length d) ∧ Below w.heap.size w W) := by
          unfold Hid
          obtain ⟨B0, -, u⟩ := box1 w _ _ _ _ W hW
          rw [h0]
          exact ⟨B0, u⟩
        clear hW h0 b1 b2
        go_wp2_with fail
        go_loopw [7] (fun sk wr => ∃ (k : Nat), sk = .int .i64 k ∧ k ≤ vs.length ∧ Hid (Bs wr q0 true (.slice a vs.length c) (.slice b ss.length d) ∧ Below w.heap.size w wr ∧ rightL2 sites (vs.drop k) (ss.drop k) = rightL2 sites vs ss)) (fun sk _ => vs.length - (intOf sk).toNat)
        case atStart => exact ⟨0, rfl, Nat.zero_le _, H1.out.1, H1.out.2, rfl⟩
        case round =>
          obtain ⟨k, rfl, hk, h4⟩ := hrel
          clear H1
          by_cases hkv : k < vs.length
          · have hkv2 : (k : Int) < vs.length := by omega
            have hks : k < ss.length := by have := h2'.out; omega
            have hks2 : (k : Int) < ss.length := by omega
            obtain ⟨b1, o1, x, hX, rfl, hx6⟩ := HV.out.at hkv
            obtain ⟨b2, o2, l, ai, ci, hX2, rfl, hc1, hc2, hc3, hc4⟩ := HR.out.at hks
            have hl := HL3.out k l hX2
            have HD : Hid (rightL2 sites vs ss = ((rightR x.s x.k x.n x.lo x.hi x.p && ((decide (0 ≤ sites) && decide (sites ≤ 4096)) && rightL sites 0 l)) && rightL2 sites (vs.drop (k + 1)) (ss.drop (k + 1)))) := hide (by
              rw [← h4.out.2.2, List.drop_eq_getElem_cons hkv, List.drop_eq_getElem_cons hks]
              obtain ⟨_, e1⟩ := List.getElem?_eq_some_iff.1 hX
              obtain ⟨_, e2⟩ := List.getElem?_eq_some_iff.1 hX2
              rw [e1, e2]; rfl)
            have t6 := hx6.keep h4.out.2.1
            have d0 := t6.c0
            have d1 := t6.c1
            have d2 := t6.c2
            have d3 := t6.c3
            have d4 := t6.c4
            have d5 := t6.c5
            have e1 := h4.out.1.c1
            have HB := hide h4.out.1
            have HW := hide h4.out.2.1
            have HC := hide hc1
            have HI := hide hc2
            clear hX hX2 hx6 t6 h4 hc1 hc2 hc3 hc4
            have cF := fun w => rightr_V x.s x.k x.n x.lo x.hi x.p w
            generalize rightR x.s x.k x.n x.lo x.hi x.p = bv at *
            cases bv with
            | false =>
              have HE : Hid (rightL2 sites vs ss = false) := hide (by rw [HD.out]; rfl)
              clear HD
              go_wp2_with (go_at_call 61; refine (cF _).mono ?_; rintro e wA ⟨rfl, hA⟩; have bA := hide hA; clear hA)
              go_ret
              exact ⟨by rw [HE.out]; rfl, HW.out.trans (bA.out.mono HW.out.size)⟩
            | true =>
              have HD2 : Hid (rightL2 sites vs ss = (((decide (0 ≤ sites) && decide (sites ≤ 4096)) && rightL sites 0 l) && rightL2 sites (vs.drop (k + 1)) (ss.drop (k + 1)))) := hide (by rw [HD.out, Bool.true_and])
              clear HD
              have cB := fun w h => brright_any sites l ai ci w h hl
              generalize ((decide (0 ≤ sites) && decide (sites ≤ 4096)) && rightL sites 0 l) = bb at *
              cases bb with
              | false =>
                have HE : Hid (rightL2 sites vs ss = false) := hide (by rw [HD2.out]; rfl)
                clear HD2
                go_wp2_with (first | (go_at_call 61; refine (cF _).mono ?_; rintro e wA ⟨rfl, hA⟩; have bA := hide hA; have e2 := (HB.out.keep hA).c2; have g2 := ((HW.out.trans (hA.mono HW.out.size)).cell (p := ⟨b2, o2 + k, none⟩) (World.block_lt_of_cell? w _ HC.out)).trans HC.out; clear hA cF d0 d1 d2 d3 d4 d5 e1) | (go_at_call 62; refine (cB _ (HI.out.keep' (HW.out.trans (bA.out.mono HW.out.size)))).mono ?_; rintro e wB ⟨⟨jq, rfl⟩, rfl⟩; replace bA := hide (below_drewN bA.out jq)))
                go_ret
                exact ⟨by rw [HE.out]; rfl, HW.out.trans (bA.out.mono HW.out.size)⟩
              | true =>
                have HE : Hid (rightL2 sites vs ss = rightL2 sites (vs.drop (k + 1)) (ss.drop (k + 1))) := hide (by rw [HD2.out, Bool.true_and])
                clear HD2
                go_wp2_with (first | (go_at_call 61; refine (cF _).mono ?_; rintro e wA ⟨rfl, hA⟩; have bA := hide hA; have e2 := (HB.out.keep hA).c2; have g2 := ((HW.out.trans (hA.mono HW.out.size)).cell (p := ⟨b2, o2 + k, none⟩) (World.block_lt_of_cell? w _ HC.out)).trans HC.out; clear hA cF d0 d1 d2 d3 d4 d5 e1) | (go_at_call 62; refine (cB _ (HI.out.keep' (HW.out.trans (bA.out.mono HW.out.size)))).mono ?_; rintro e wB ⟨⟨jq, rfl⟩, rfl⟩; replace bA := hide (below_drewN bA.out jq)))
                refine ⟨⟨k + 1, by simp, by omega, ⟨HB.out.keep bA.out, HW.out.trans (bA.out.mono HW.out.size), HE.out.symm⟩⟩, by simp [intOf]; omega⟩
          · have hke : k = vs.length := by omega
            subst hke
            have HE : Hid (rightL2 sites vs ss = true) := hide (by rw [← h4.out.2.2, List.drop_of_length_le (Nat.le_refl _)]; rfl)
            go_wp2_with fail
            go_ret
            exact ⟨by rw [HE.out]; rfl, h4.out.2.1⟩
      · have e : rightS true vs ss vs.length sites = false := by simp [rightS]; intro t; omega
        rw [e]
        have b1 : ((vs.length : Int) != vs.length) = false := by simp
        have b2 : ((ss.length : Int) != vs.length) = true := by rw [bne_iff_ne]; omega
        clear h2 e
        go_enter Try.func24, Try.ntmps24
        go_wp2
        go_ret
        exact ⟨by simp, (Below.refl _ _).alloc (Nat.le_refl _) _⟩
    · have e : rightS true vs ss regs sites = false := by simp [rightS, h1]
      rw [e]
      have b1 : ((vs.length : Int) != regs) = true := by rw [bne_iff_ne]; exact h1
      clear h1 e
      go_enter Try.func24, Try.ntmps24
      go_wp2
      go_ret
      exact ⟨by simp, (Below.refl _ _).alloc (Nat.le_refl _) _⟩
end Go.Proofs.Ytmhicllhjiglkaa
