import Derived.Test.YthiacdbjlkpfgaaDoorG02
namespace Go.Proofs.YthiacdbjlkpfgaaDoor
open Go.RowKit
set_option maxRecDepth 100000 in
set_option maxHeartbeats 16000000 in
theorem of_V (n : Int) (w : World) : Calls Tryd.prog 16 #[.int .i64 n] w fun e w' => e = .returned (.agg #[.int .i64 (up (ofV n).s), .bool (ofV n).k, .int .i64 (ofV n).n, .int .i64 (ofV n).lo, .int .i64 (ofV n).hi, .int .i64 (up (ofV n).p)]) ∧ Below w.heap.size w w' := by
  have c1 := fun w => bel0 (sof_any n w)
  have c2 := fun w => bel1 (kof_any n w)
  have c3 := fun w => bel1 (nof_any n w)
  have c4 := fun w => bel0 (pof_any n w)
  have x0 : Br (w.alloc (.cells #[.int .i64 0, .bool false, .int .i64 0, .int .i64 0, .int .i64 0, .int .i64 0] 33)) (w.heap.size) 0 false 0 0 0 0 := (Br.new w 0 false 0 0 0 0 33)
  have xf : Fz (w.alloc (.cells #[.int .i64 0, .bool false, .int .i64 0, .int .i64 0, .int .i64 0, .int .i64 0] 33)) (w.heap.size) := by simpa using Fz.new w 0 false 0 0 0 0 33
  have xb : Below w.heap.size w (w.alloc (.cells #[.int .i64 0, .bool false, .int .i64 0, .int .i64 0, .int .i64 0, .int .i64 0] 33)) := (by repeat (first | exact Below.refl _ _ | (refine Below.drew ?_) | (refine below_drewN ?_ _) | (refine Below.setCell ?_ (by first | omega | (simp; done) | (simp; omega)) _) | (refine Below.alloc ?_ (by first | omega | (simp; done) | (simp; omega)) _) | (refine Below.trans ?_ (Below.mono (by assumption) (by first | omega | (simp; done) | (simp; omega))))))
  go_enter Tryd.func16, Tryd.ntmps16
  go_upto_region 1 with fail
  go_name_world W hW
  rw [hW] at x0 xf xb
  clear hW
  obtain ⟨N, hN⟩ : ∃ N, N = w.heap.size := ⟨_, rfl⟩
  rw [← hN] at x0 xf xb ⊢
  have HN : Hid (N = w.heap.size) := hN
  clear hN
  have HA := hide (And.intro x0 (And.intro xf xb))
  clear x0 xf xb
  have a0 := HA.out.1.c0
  have a1 := HA.out.1.c1
  have a2 := HA.out.1.c2
  have a3 := HA.out.1.c3
  have a4 := HA.out.1.c4
  have a5 := HA.out.1.c5
  have f0 := HA.out.2.1.f0
  have f1 := HA.out.2.1.f1
  have f2 := HA.out.2.1.f2
  have f3 := HA.out.2.1.f3
  have f4 := HA.out.2.1.f4
  have f5 := HA.out.2.1.f5
  go_wp2_with (first | (go_at_call 49; refine (c1 _).mono ?_; rintro e w1 ⟨rfl, hb1⟩; have HB := hide (And.intro (HA.out.1.keep hb1) (And.intro (HA.out.2.1.keep HA.out.1.lt hb1) (HA.out.2.2.trans (hb1.mono (Nat.le_of_lt HA.out.1.lt))))); clear HA hb1 a0 a1 a2 a3 a4 a5 f0 f1 f2 f3 f4 f5; have HA := HB; clear HB; have a0 := HA.out.1.c0; have a1 := HA.out.1.c1; have a2 := HA.out.1.c2; have a3 := HA.out.1.c3; have a4 := HA.out.1.c4; have a5 := HA.out.1.c5; have f0 := HA.out.2.1.f0; have f1 := HA.out.2.1.f1; have f2 := HA.out.2.1.f2; have f3 := HA.out.2.1.f3; have f4 := HA.out.2.1.f4; have f5 := HA.out.2.1.f5) | (go_at_call 50; refine (c2 _).mono ?_; rintro e w1 ⟨rfl, hb1⟩; have HB := hide (And.intro (HA.out.1.keep hb1) (And.intro (HA.out.2.1.keep HA.out.1.lt hb1) (HA.out.2.2.trans (hb1.mono (Nat.le_of_lt HA.out.1.lt))))); clear HA hb1 a0 a1 a2 a3 a4 a5 f0 f1 f2 f3 f4 f5; have HA := HB; clear HB; have a0 := HA.out.1.c0; have a1 := HA.out.1.c1; have a2 := HA.out.1.c2; have a3 := HA.out.1.c3; have a4 := HA.out.1.c4; have a5 := HA.out.1.c5; have f0 := HA.out.2.1.f0; have f1 := HA.out.2.1.f1; have f2 := HA.out.2.1.f2; have f3 := HA.out.2.1.f3; have f4 := HA.out.2.1.f4; have f5 := HA.out.2.1.f5) | (go_at_call 51; refine (c3 _).mono ?_; rintro e w1 ⟨rfl, hb1⟩; have HB := hide (And.intro (HA.out.1.keep hb1) (And.intro (HA.out.2.1.keep HA.out.1.lt hb1) (HA.out.2.2.trans (hb1.mono (Nat.le_of_lt HA.out.1.lt))))); clear HA hb1 a0 a1 a2 a3 a4 a5 f0 f1 f2 f3 f4 f5; have HA := HB; clear HB; have a0 := HA.out.1.c0; have a1 := HA.out.1.c1; have a2 := HA.out.1.c2; have a3 := HA.out.1.c3; have a4 := HA.out.1.c4; have a5 := HA.out.1.c5; have f0 := HA.out.2.1.f0; have f1 := HA.out.2.1.f1; have f2 := HA.out.2.1.f2; have f3 := HA.out.2.1.f3; have f4 := HA.out.2.1.f4; have f5 := HA.out.2.1.f5) | (go_at_call 52; refine (c4 _).mono ?_; rintro e w1 ⟨rfl, hb1⟩; have HB := hide (And.intro (HA.out.1.keep hb1) (And.intro (HA.out.2.1.keep HA.out.1.lt hb1) (HA.out.2.2.trans (hb1.mono (Nat.le_of_lt HA.out.1.lt))))); clear HA hb1 a0 a1 a2 a3 a4 a5 f0 f1 f2 f3 f4 f5; have HA := HB; clear HB; have a0 := HA.out.1.c0; have a1 := HA.out.1.c1; have a2 := HA.out.1.c2; have a3 := HA.out.1.c3; have a4 := HA.out.1.c4; have a5 := HA.out.1.c5; have f0 := HA.out.2.1.f0; have f1 := HA.out.2.1.f1; have f2 := HA.out.2.1.f2; have f3 := HA.out.2.1.f3; have f4 := HA.out.2.1.f4; have f5 := HA.out.2.1.f5))
  have zw := HA.out.1.wrote (up (sg n)) true n n n (up (pr n))
  have hZ := st6_below HA.out.2.2 N (Nat.le_refl _) (.int .i64 (up (sg n))) (.bool true) (.int .i64 n) (.int .i64 n) (.int .i64 n) (.int .i64 (up (pr n)))
  clear HA c1 c2 c3 c4 a0 a1 a2 a3 a4 a5 f0 f1 f2 f3 f4 f5
  have a0 := zw.c0
  have a1 := zw.c1
  have a2 := zw.c2
  have a3 := zw.c3
  have a4 := zw.c4
  have a5 := zw.c5
  clear zw
  refine bodyPost_ret (by simp [results, Tryd.results16, go_sem, *]; try rfl) rfl ⟨?_, by rw [← HN.out]; exact hZ⟩
  rfl
set_option maxRecDepth 100000 in
set_option maxHeartbeats 16000000 in
theorem any_V (w : World) : Calls Tryd.prog 24 #[] w fun e w' => e = .returned (.agg #[.int .i64 (up anyV.s), .bool anyV.k, .int .i64 anyV.n, .int .i64 anyV.lo, .int .i64 anyV.hi, .int .i64 (up anyV.p)]) ∧ Below w.heap.size w w' := by
  have c1 := fun w => bel1 (kany_any w)
  have c2 := fun w => bel1 (nany_any w)
  have x0 : Br (w.alloc (.cells #[.int .i64 0, .bool false, .int .i64 0, .int .i64 0, .int .i64 0, .int .i64 0] 33)) (w.heap.size) 0 false 0 0 0 0 := (Br.new w 0 false 0 0 0 0 33)
  have xf : Fz (w.alloc (.cells #[.int .i64 0, .bool false, .int .i64 0, .int .i64 0, .int .i64 0, .int .i64 0] 33)) (w.heap.size) := by simpa using Fz.new w 0 false 0 0 0 0 33
  have xb : Below w.heap.size w (w.alloc (.cells #[.int .i64 0, .bool false, .int .i64 0, .int .i64 0, .int .i64 0, .int .i64 0] 33)) := (by repeat (first | exact Below.refl _ _ | (refine Below.drew ?_) | (refine below_drewN ?_ _) | (refine Below.setCell ?_ (by first | omega | (simp; done) | (simp; omega)) _) | (refine Below.alloc ?_ (by first | omega | (simp; done) | (simp; omega)) _) | (refine Below.trans ?_ (Below.mono (by assumption) (by first | omega | (simp; done) | (simp; omega))))))
  go_enter Tryd.func24, Tryd.ntmps24
  go_upto_region 1 with fail
  go_name_world W hW
  rw [hW] at x0 xf xb
  clear hW
  obtain ⟨N, hN⟩ : ∃ N, N = w.heap.size := ⟨_, rfl⟩
  rw [← hN] at x0 xf xb ⊢
  have HN : Hid (N = w.heap.size) := hN
  clear hN
  have HA := hide (And.intro x0 (And.intro xf xb))
  clear x0 xf xb
  have a0 := HA.out.1.c0
  have a1 := HA.out.1.c1
  have a2 := HA.out.1.c2
  have a3 := HA.out.1.c3
  have a4 := HA.out.1.c4
  have a5 := HA.out.1.c5
  have f0 := HA.out.2.1.f0
  have f1 := HA.out.2.1.f1
  have f2 := HA.out.2.1.f2
  have f3 := HA.out.2.1.f3
  have f4 := HA.out.2.1.f4
  have f5 := HA.out.2.1.f5
  go_wp2_with (first | (go_at_call 53; refine (c1 _).mono ?_; rintro e w1 ⟨rfl, hb1⟩; have HB := hide (And.intro (HA.out.1.keep hb1) (And.intro (HA.out.2.1.keep HA.out.1.lt hb1) (HA.out.2.2.trans (hb1.mono (Nat.le_of_lt HA.out.1.lt))))); clear HA hb1 a0 a1 a2 a3 a4 a5 f0 f1 f2 f3 f4 f5; have HA := HB; clear HB; have a0 := HA.out.1.c0; have a1 := HA.out.1.c1; have a2 := HA.out.1.c2; have a3 := HA.out.1.c3; have a4 := HA.out.1.c4; have a5 := HA.out.1.c5; have f0 := HA.out.2.1.f0; have f1 := HA.out.2.1.f1; have f2 := HA.out.2.1.f2; have f3 := HA.out.2.1.f3; have f4 := HA.out.2.1.f4; have f5 := HA.out.2.1.f5) | (go_at_call 73; refine (c2 _).mono ?_; rintro e w1 ⟨rfl, hb1⟩; have HB := hide (And.intro (HA.out.1.keep hb1) (And.intro (HA.out.2.1.keep HA.out.1.lt hb1) (HA.out.2.2.trans (hb1.mono (Nat.le_of_lt HA.out.1.lt))))); clear HA hb1 a0 a1 a2 a3 a4 a5 f0 f1 f2 f3 f4 f5; have HA := HB; clear HB; have a0 := HA.out.1.c0; have a1 := HA.out.1.c1; have a2 := HA.out.1.c2; have a3 := HA.out.1.c3; have a4 := HA.out.1.c4; have a5 := HA.out.1.c5; have f0 := HA.out.2.1.f0; have f1 := HA.out.2.1.f1; have f2 := HA.out.2.1.f2; have f3 := HA.out.2.1.f3; have f4 := HA.out.2.1.f4; have f5 := HA.out.2.1.f5))
  have zw := HA.out.1.wrote 7 false 0 (-9223372036854775808) 9223372036854775807 3
  have hZ := st6_below HA.out.2.2 N (Nat.le_refl _) (.int .i64 7) (.bool false) (.int .i64 0) (.int .i64 (-9223372036854775808)) (.int .i64 9223372036854775807) (.int .i64 3)
  clear HA c1 c2 a0 a1 a2 a3 a4 a5 f0 f1 f2 f3 f4 f5
  have a0 := zw.c0
  have a1 := zw.c1
  have a2 := zw.c2
  have a3 := zw.c3
  have a4 := zw.c4
  have a5 := zw.c5
  clear zw
  refine bodyPost_ret (by simp [results, Tryd.results24, go_sem, *]; try rfl) rfl ⟨?_, by rw [← HN.out]; exact hZ⟩
  rfl
def rightR (s : Int) (k : Bool) (n lo hi p : Int) : Bool := (decide (1 ≤ s) && decide (s ≤ 7)) && (rightK k n && (decide (lo ≤ hi) && (decide (1 ≤ p) && decide (p ≤ 3))))
set_option maxRecDepth 100000 in
set_option maxHeartbeats 16000000 in
theorem right_V (s : Int) (k : Bool) (n lo hi p : Int) (w : World) : Calls Tryd.prog 23 #[.agg #[.int .i64 s, .bool k, .int .i64 n, .int .i64 lo, .int .i64 hi, .int .i64 p]] w fun e w' => e = .returned (.bool (rightR s k n lo hi p)) ∧ Below w.heap.size w w' := by
  have c1 := fun w => bel0 (sright_any s w)
  have c2 := fun w => bel1 (kright_any k n w)
  have c3 := fun w => bel1 (nright_any lo hi w)
  have c4 := fun w => bel0 (pright_any p w)
  have HR : Hid (rightR s k n lo hi p = ((decide (1 ≤ s) && decide (s ≤ 7)) && (rightK k n && (decide (lo ≤ hi) && (decide (1 ≤ p) && decide (p ≤ 3)))))) := rfl
  generalize rightR s k n lo hi p = r at *
  generalize (decide (1 ≤ s) && decide (s ≤ 7)) = t1 at *
  generalize rightK k n = t2 at *
  generalize decide (lo ≤ hi) = t3 at *
  generalize (decide (1 ≤ p) && decide (p ≤ 3)) = t4 at *
  cases t1
  · have x0 : Br (w.alloc (.cells #[.int .i64 s, .bool k, .int .i64 n, .int .i64 lo, .int .i64 hi, .int .i64 p] 33)) (w.heap.size) s k n lo hi p := (Br.new w s k n lo hi p 33)
    have xb : Below w.heap.size w (w.alloc (.cells #[.int .i64 s, .bool k, .int .i64 n, .int .i64 lo, .int .i64 hi, .int .i64 p] 33)) := (by repeat (first | exact Below.refl _ _ | (refine Below.drew ?_) | (refine below_drewN ?_ _) | (refine Below.setCell ?_ (by first | omega | (simp; done) | (simp; omega)) _) | (refine Below.alloc ?_ (by first | omega | (simp; done) | (simp; omega)) _) | (refine Below.trans ?_ (Below.mono (by assumption) (by first | omega | (simp; done) | (simp; omega))))))
    go_enter Tryd.func23, Tryd.ntmps23
    go_upto_region 1 with fail
    go_name_world W hW
    rw [hW] at x0 xb
    clear hW
    obtain ⟨N, hN⟩ : ∃ N, N = w.heap.size := ⟨_, rfl⟩
    rw [← hN] at x0 xb ⊢
    have HN : Hid (N = w.heap.size) := hN
    clear hN
    have HA := hide (And.intro x0 xb)
    clear x0 xb
    have a0 := HA.out.1.c0
    have a1 := HA.out.1.c1
    have a2 := HA.out.1.c2
    have a3 := HA.out.1.c3
    have a4 := HA.out.1.c4
    have a5 := HA.out.1.c5
    go_wp2_with (first | (go_at_call 69; refine (c1 _).mono ?_; rintro e w1 ⟨rfl, hb1⟩; have HB := hide (And.intro (HA.out.1.keep hb1) (HA.out.2.trans (hb1.mono (Nat.le_of_lt HA.out.1.lt)))); clear HA hb1 a0 a1 a2 a3 a4 a5; have HA := HB; clear HB; have a0 := HA.out.1.c0; have a1 := HA.out.1.c1; have a2 := HA.out.1.c2; have a3 := HA.out.1.c3; have a4 := HA.out.1.c4; have a5 := HA.out.1.c5) | (go_at_call 70; refine (c2 _).mono ?_; rintro e w1 ⟨rfl, hb1⟩; have HB := hide (And.intro (HA.out.1.keep hb1) (HA.out.2.trans (hb1.mono (Nat.le_of_lt HA.out.1.lt)))); clear HA hb1 a0 a1 a2 a3 a4 a5; have HA := HB; clear HB; have a0 := HA.out.1.c0; have a1 := HA.out.1.c1; have a2 := HA.out.1.c2; have a3 := HA.out.1.c3; have a4 := HA.out.1.c4; have a5 := HA.out.1.c5) | (go_at_call 71; refine (c3 _).mono ?_; rintro e w1 ⟨rfl, hb1⟩; have HB := hide (And.intro (HA.out.1.keep hb1) (HA.out.2.trans (hb1.mono (Nat.le_of_lt HA.out.1.lt)))); clear HA hb1 a0 a1 a2 a3 a4 a5; have HA := HB; clear HB; have a0 := HA.out.1.c0; have a1 := HA.out.1.c1; have a2 := HA.out.1.c2; have a3 := HA.out.1.c3; have a4 := HA.out.1.c4; have a5 := HA.out.1.c5) | (go_at_call 72; refine (c4 _).mono ?_; rintro e w1 ⟨rfl, hb1⟩; have HB := hide (And.intro (HA.out.1.keep hb1) (HA.out.2.trans (hb1.mono (Nat.le_of_lt HA.out.1.lt)))); clear HA hb1 a0 a1 a2 a3 a4 a5; have HA := HB; clear HB; have a0 := HA.out.1.c0; have a1 := HA.out.1.c1; have a2 := HA.out.1.c2; have a3 := HA.out.1.c3; have a4 := HA.out.1.c4; have a5 := HA.out.1.c5))
    clear c1 c2 c3 c4
    go_ret
    exact ⟨by rw [HR.out]; rfl, by rw [← HN.out]; exact HA.out.2⟩
  · cases t2
    · have x0 : Br (w.alloc (.cells #[.int .i64 s, .bool k, .int .i64 n, .int .i64 lo, .int .i64 hi, .int .i64 p] 33)) (w.heap.size) s k n lo hi p := (Br.new w s k n lo hi p 33)
      have xb : Below w.heap.size w (w.alloc (.cells #[.int .i64 s, .bool k, .int .i64 n, .int .i64 lo, .int .i64 hi, .int .i64 p] 33)) := (by repeat (first | exact Below.refl _ _ | (refine Below.drew ?_) | (refine below_drewN ?_ _) | (refine Below.setCell ?_ (by first | omega | (simp; done) | (simp; omega)) _) | (refine Below.alloc ?_ (by first | omega | (simp; done) | (simp; omega)) _) | (refine Below.trans ?_ (Below.mono (by assumption) (by first | omega | (simp; done) | (simp; omega))))))
      go_enter Tryd.func23, Tryd.ntmps23
      go_upto_region 1 with fail
      go_name_world W hW
      rw [hW] at x0 xb
      clear hW
      obtain ⟨N, hN⟩ : ∃ N, N = w.heap.size := ⟨_, rfl⟩
      rw [← hN] at x0 xb ⊢
      have HN : Hid (N = w.heap.size) := hN
      clear hN
      have HA := hide (And.intro x0 xb)
      clear x0 xb
      have a0 := HA.out.1.c0
      have a1 := HA.out.1.c1
      have a2 := HA.out.1.c2
      have a3 := HA.out.1.c3
      have a4 := HA.out.1.c4
      have a5 := HA.out.1.c5
      go_wp2_with (first | (go_at_call 69; refine (c1 _).mono ?_; rintro e w1 ⟨rfl, hb1⟩; have HB := hide (And.intro (HA.out.1.keep hb1) (HA.out.2.trans (hb1.mono (Nat.le_of_lt HA.out.1.lt)))); clear HA hb1 a0 a1 a2 a3 a4 a5; have HA := HB; clear HB; have a0 := HA.out.1.c0; have a1 := HA.out.1.c1; have a2 := HA.out.1.c2; have a3 := HA.out.1.c3; have a4 := HA.out.1.c4; have a5 := HA.out.1.c5) | (go_at_call 70; refine (c2 _).mono ?_; rintro e w1 ⟨rfl, hb1⟩; have HB := hide (And.intro (HA.out.1.keep hb1) (HA.out.2.trans (hb1.mono (Nat.le_of_lt HA.out.1.lt)))); clear HA hb1 a0 a1 a2 a3 a4 a5; have HA := HB; clear HB; have a0 := HA.out.1.c0; have a1 := HA.out.1.c1; have a2 := HA.out.1.c2; have a3 := HA.out.1.c3; have a4 := HA.out.1.c4; have a5 := HA.out.1.c5) | (go_at_call 71; refine (c3 _).mono ?_; rintro e w1 ⟨rfl, hb1⟩; have HB := hide (And.intro (HA.out.1.keep hb1) (HA.out.2.trans (hb1.mono (Nat.le_of_lt HA.out.1.lt)))); clear HA hb1 a0 a1 a2 a3 a4 a5; have HA := HB; clear HB; have a0 := HA.out.1.c0; have a1 := HA.out.1.c1; have a2 := HA.out.1.c2; have a3 := HA.out.1.c3; have a4 := HA.out.1.c4; have a5 := HA.out.1.c5) | (go_at_call 72; refine (c4 _).mono ?_; rintro e w1 ⟨rfl, hb1⟩; have HB := hide (And.intro (HA.out.1.keep hb1) (HA.out.2.trans (hb1.mono (Nat.le_of_lt HA.out.1.lt)))); clear HA hb1 a0 a1 a2 a3 a4 a5; have HA := HB; clear HB; have a0 := HA.out.1.c0; have a1 := HA.out.1.c1; have a2 := HA.out.1.c2; have a3 := HA.out.1.c3; have a4 := HA.out.1.c4; have a5 := HA.out.1.c5))
      clear c1 c2 c3 c4
      go_ret
      exact ⟨by rw [HR.out]; rfl, by rw [← HN.out]; exact HA.out.2⟩
    · cases t3
      · have x0 : Br (w.alloc (.cells #[.int .i64 s, .bool k, .int .i64 n, .int .i64 lo, .int .i64 hi, .int .i64 p] 33)) (w.heap.size) s k n lo hi p := (Br.new w s k n lo hi p 33)
        have xb : Below w.heap.size w (w.alloc (.cells #[.int .i64 s, .bool k, .int .i64 n, .int .i64 lo, .int .i64 hi, .int .i64 p] 33)) := (by repeat (first | exact Below.refl _ _ | (refine Below.drew ?_) | (refine below_drewN ?_ _) | (refine Below.setCell ?_ (by first | omega | (simp; done) | (simp; omega)) _) | (refine Below.alloc ?_ (by first | omega | (simp; done) | (simp; omega)) _) | (refine Below.trans ?_ (Below.mono (by assumption) (by first | omega | (simp; done) | (simp; omega))))))
        go_enter Tryd.func23, Tryd.ntmps23
        go_upto_region 1 with fail
        go_name_world W hW
        rw [hW] at x0 xb
        clear hW
        obtain ⟨N, hN⟩ : ∃ N, N = w.heap.size := ⟨_, rfl⟩
        rw [← hN] at x0 xb ⊢
        have HN : Hid (N = w.heap.size) := hN
        clear hN
        have HA := hide (And.intro x0 xb)
        clear x0 xb
        have a0 := HA.out.1.c0
        have a1 := HA.out.1.c1
        have a2 := HA.out.1.c2
        have a3 := HA.out.1.c3
        have a4 := HA.out.1.c4
        have a5 := HA.out.1.c5
        go_wp2_with (first | (go_at_call 69; refine (c1 _).mono ?_; rintro e w1 ⟨rfl, hb1⟩; have HB := hide (And.intro (HA.out.1.keep hb1) (HA.out.2.trans (hb1.mono (Nat.le_of_lt HA.out.1.lt)))); clear HA hb1 a0 a1 a2 a3 a4 a5; have HA := HB; clear HB; have a0 := HA.out.1.c0; have a1 := HA.out.1.c1; have a2 := HA.out.1.c2; have a3 := HA.out.1.c3; have a4 := HA.out.1.c4; have a5 := HA.out.1.c5) | (go_at_call 70; refine (c2 _).mono ?_; rintro e w1 ⟨rfl, hb1⟩; have HB := hide (And.intro (HA.out.1.keep hb1) (HA.out.2.trans (hb1.mono (Nat.le_of_lt HA.out.1.lt)))); clear HA hb1 a0 a1 a2 a3 a4 a5; have HA := HB; clear HB; have a0 := HA.out.1.c0; have a1 := HA.out.1.c1; have a2 := HA.out.1.c2; have a3 := HA.out.1.c3; have a4 := HA.out.1.c4; have a5 := HA.out.1.c5) | (go_at_call 71; refine (c3 _).mono ?_; rintro e w1 ⟨rfl, hb1⟩; have HB := hide (And.intro (HA.out.1.keep hb1) (HA.out.2.trans (hb1.mono (Nat.le_of_lt HA.out.1.lt)))); clear HA hb1 a0 a1 a2 a3 a4 a5; have HA := HB; clear HB; have a0 := HA.out.1.c0; have a1 := HA.out.1.c1; have a2 := HA.out.1.c2; have a3 := HA.out.1.c3; have a4 := HA.out.1.c4; have a5 := HA.out.1.c5) | (go_at_call 72; refine (c4 _).mono ?_; rintro e w1 ⟨rfl, hb1⟩; have HB := hide (And.intro (HA.out.1.keep hb1) (HA.out.2.trans (hb1.mono (Nat.le_of_lt HA.out.1.lt)))); clear HA hb1 a0 a1 a2 a3 a4 a5; have HA := HB; clear HB; have a0 := HA.out.1.c0; have a1 := HA.out.1.c1; have a2 := HA.out.1.c2; have a3 := HA.out.1.c3; have a4 := HA.out.1.c4; have a5 := HA.out.1.c5))
        clear c1 c2 c3 c4
        go_ret
        exact ⟨by rw [HR.out]; rfl, by rw [← HN.out]; exact HA.out.2⟩
      · have x0 : Br (w.alloc (.cells #[.int .i64 s, .bool k, .int .i64 n, .int .i64 lo, .int .i64 hi, .int .i64 p] 33)) (w.heap.size) s k n lo hi p := (Br.new w s k n lo hi p 33)
        have xb : Below w.heap.size w (w.alloc (.cells #[.int .i64 s, .bool k, .int .i64 n, .int .i64 lo, .int .i64 hi, .int .i64 p] 33)) := (by repeat (first | exact Below.refl _ _ | (refine Below.drew ?_) | (refine below_drewN ?_ _) | (refine Below.setCell ?_ (by first | omega | (simp; done) | (simp; omega)) _) | (refine Below.alloc ?_ (by first | omega | (simp; done) | (simp; omega)) _) | (refine Below.trans ?_ (Below.mono (by assumption) (by first | omega | (simp; done) | (simp; omega))))))
        go_enter Tryd.func23, Tryd.ntmps23
        go_upto_region 1 with fail
        go_name_world W hW
        rw [hW] at x0 xb
        clear hW
        obtain ⟨N, hN⟩ : ∃ N, N = w.heap.size := ⟨_, rfl⟩
        rw [← hN] at x0 xb ⊢
        have HN : Hid (N = w.heap.size) := hN
        clear hN
        have HA := hide (And.intro x0 xb)
        clear x0 xb
        have a0 := HA.out.1.c0
        have a1 := HA.out.1.c1
        have a2 := HA.out.1.c2
        have a3 := HA.out.1.c3
        have a4 := HA.out.1.c4
        have a5 := HA.out.1.c5
        go_wp2_with (first | (go_at_call 69; refine (c1 _).mono ?_; rintro e w1 ⟨rfl, hb1⟩; have HB := hide (And.intro (HA.out.1.keep hb1) (HA.out.2.trans (hb1.mono (Nat.le_of_lt HA.out.1.lt)))); clear HA hb1 a0 a1 a2 a3 a4 a5; have HA := HB; clear HB; have a0 := HA.out.1.c0; have a1 := HA.out.1.c1; have a2 := HA.out.1.c2; have a3 := HA.out.1.c3; have a4 := HA.out.1.c4; have a5 := HA.out.1.c5) | (go_at_call 70; refine (c2 _).mono ?_; rintro e w1 ⟨rfl, hb1⟩; have HB := hide (And.intro (HA.out.1.keep hb1) (HA.out.2.trans (hb1.mono (Nat.le_of_lt HA.out.1.lt)))); clear HA hb1 a0 a1 a2 a3 a4 a5; have HA := HB; clear HB; have a0 := HA.out.1.c0; have a1 := HA.out.1.c1; have a2 := HA.out.1.c2; have a3 := HA.out.1.c3; have a4 := HA.out.1.c4; have a5 := HA.out.1.c5) | (go_at_call 71; refine (c3 _).mono ?_; rintro e w1 ⟨rfl, hb1⟩; have HB := hide (And.intro (HA.out.1.keep hb1) (HA.out.2.trans (hb1.mono (Nat.le_of_lt HA.out.1.lt)))); clear HA hb1 a0 a1 a2 a3 a4 a5; have HA := HB; clear HB; have a0 := HA.out.1.c0; have a1 := HA.out.1.c1; have a2 := HA.out.1.c2; have a3 := HA.out.1.c3; have a4 := HA.out.1.c4; have a5 := HA.out.1.c5) | (go_at_call 72; refine (c4 _).mono ?_; rintro e w1 ⟨rfl, hb1⟩; have HB := hide (And.intro (HA.out.1.keep hb1) (HA.out.2.trans (hb1.mono (Nat.le_of_lt HA.out.1.lt)))); clear HA hb1 a0 a1 a2 a3 a4 a5; have HA := HB; clear HB; have a0 := HA.out.1.c0; have a1 := HA.out.1.c1; have a2 := HA.out.1.c2; have a3 := HA.out.1.c3; have a4 := HA.out.1.c4; have a5 := HA.out.1.c5))
        clear c1 c2 c3 c4
        go_ret
        exact ⟨by rw [HR.out]; rfl, by rw [← HN.out]; exact HA.out.2⟩
end Go.Proofs.YthiacdbjlkpfgaaDoor
