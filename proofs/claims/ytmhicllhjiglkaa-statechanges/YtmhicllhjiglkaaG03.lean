import Derived.Test.YtmhicllhjiglkaaG02
import Derived.Deep.RegionHeld3
namespace Go.Proofs.Ytmhicllhjiglkaa
open Go.RowKit
set_option maxRecDepth 100000 in
set_option maxHeartbeats 16000000 in
theorem of_V (n : Int) (w : World) : Calls Try.prog 41 #[.int .i64 n] w fun e w' => e = .returned (.agg #[.int .i64 (up (ofV n).s), .bool (ofV n).k, .int .i64 (ofV n).n, .int .i64 (ofV n).lo, .int .i64 (ofV n).hi, .int .i64 (up (ofV n).p)]) ∧ Below w.heap.size w w' := by
  have c1 := fun w => bel0 (sof_any n w)
  have c2 := fun w => bel1 (kof_any n w)
  have c3 := fun w => bel1 (nof_any n w)
  have c4 := fun w => bel0 (pof_any n w)
  have x0 : Br (w.alloc (.cells #[.int .i64 0, .bool false, .int .i64 0, .int .i64 0, .int .i64 0, .int .i64 0] 53)) (w.heap.size) 0 false 0 0 0 0 := (Br.new w 0 false 0 0 0 0 53)
  have xf : Fz (w.alloc (.cells #[.int .i64 0, .bool false, .int .i64 0, .int .i64 0, .int .i64 0, .int .i64 0] 53)) (w.heap.size) := by simpa using Fz.new w 0 false 0 0 0 0 53
  have xb : Below w.heap.size w (w.alloc (.cells #[.int .i64 0, .bool false, .int .i64 0, .int .i64 0, .int .i64 0, .int .i64 0] 53)) := (by repeat (first | exact Below.refl _ _ | (refine Below.drew ?_) | (refine below_drewN ?_ _) | (refine Below.setCell ?_ (by first | omega | (simp; done) | (simp; omega)) _) | (refine Below.alloc ?_ (by first | omega | (simp; done) | (simp; omega)) _) | (refine Below.trans ?_ (Below.mono (by assumption) (by first | omega | (simp; done) | (simp; omega))))))
  go_enter Try.func41, Try.ntmps41
  go_upto_region 1 with fail
  go_name_world W hW
  rw [hW] at x0 xf xb
  clear hW
  obtain ⟨N, hN⟩ : ∃ N, N = w.heap.size := ⟨_, rfl⟩
  rw [← hN] at x0 xf xb ⊢
  have HN : Hid (N = w.heap.size) := hN
  clear hN
  have HA := hide (And.intro x0 (And.intro xf xb))
  clear x0 xf xb
  have a0 := HA.out.1.c0
  have a1 := HA.out.1.c1
  have a2 := HA.out.1.c2
  have a3 := HA.out.1.c3
  have a4 := HA.out.1.c4
  have a5 := HA.out.1.c5
  have f0 := HA.out.2.1.f0
  have f1 := HA.out.2.1.f1
  have f2 := HA.out.2.1.f2
  have f3 := HA.out.2.1.f3
  have f4 := HA.out.2.1.f4
  have f5 := HA.out.2.1.f5
  go_wp2_with (first | (go_at_call 81; refine (c1 _).mono ?_; rintro e w1 ⟨rfl, hb1⟩; have HB := hide (And.intro (HA.out.1.keep hb1) (And.intro (HA.out.2.1.keep HA.out.1.lt hb1) (HA.out.2.2.trans (hb1.mono (Nat.le_of_lt HA.out.1.lt))))); clear HA hb1 a0 a1 a2 a3 a4 a5 f0 f1 f2 f3 f4 f5; have HA := HB; clear HB; have a0 := HA.out.1.c0; have a1 := HA.out.1.c1; have a2 := HA.out.1.c2; have a3 := HA.out.1.c3; have a4 := HA.out.1.c4; have a5 := HA.out.1.c5; have f0 := HA.out.2.1.f0; have f1 := HA.out.2.1.f1; have f2 := HA.out.2.1.f2; have f3 := HA.out.2.1.f3; have f4 := HA.out.2.1.f4; have f5 := HA.out.2.1.f5) | (go_at_call 82; refine (c2 _).mono ?_; rintro e w1 ⟨rfl, hb1⟩; have HB := hide (And.intro (HA.out.1.keep hb1) (And.intro (HA.out.2.1.keep HA.out.1.lt hb1) (HA.out.2.2.trans (hb1.mono (Nat.le_of_lt HA.out.1.lt))))); clear HA hb1 a0 a1 a2 a3 a4 a5 f0 f1 f2 f3 f4 f5; have HA := HB; clear HB; have a0 := HA.out.1.c0; have a1 := HA.out.1.c1; have a2 := HA.out.1.c2; have a3 := HA.out.1.c3; have a4 := HA.out.1.c4; have a5 := HA.out.1.c5; have f0 := HA.out.2.1.f0; have f1 := HA.out.2.1.f1; have f2 := HA.out.2.1.f2; have f3 := HA.out.2.1.f3; have f4 := HA.out.2.1.f4; have f5 := HA.out.2.1.f5) | (go_at_call 83; refine (c3 _).mono ?_; rintro e w1 ⟨rfl, hb1⟩; have HB := hide (And.intro (HA.out.1.keep hb1) (And.intro (HA.out.2.1.keep HA.out.1.lt hb1) (HA.out.2.2.trans (hb1.mono (Nat.le_of_lt HA.out.1.lt))))); clear HA hb1 a0 a1 a2 a3 a4 a5 f0 f1 f2 f3 f4 f5; have HA := HB; clear HB; have a0 := HA.out.1.c0; have a1 := HA.out.1.c1; have a2 := HA.out.1.c2; have a3 := HA.out.1.c3; have a4 := HA.out.1.c4; have a5 := HA.out.1.c5; have f0 := HA.out.2.1.f0; have f1 := HA.out.2.1.f1; have f2 := HA.out.2.1.f2; have f3 := HA.out.2.1.f3; have f4 := HA.out.2.1.f4; have f5 := HA.out.2.1.f5) | (go_at_call 84; refine (c4 _).mono ?_; rintro e w1 ⟨rfl, hb1⟩; have HB := hide (And.intro (HA.out.1.keep hb1) (And.intro (HA.out.2.1.keep HA.out.1.lt hb1) (HA.out.2.2.trans (hb1.mono (Nat.le_of_lt HA.out.1.lt))))); clear HA hb1 a0 a1 a2 a3 a4 a5 f0 f1 f2 f3 f4 f5; have HA := HB; clear HB; have a0 := HA.out.1.c0; have a1 := HA.out.1.c1; have a2 := HA.out.1.c2; have a3 := HA.out.1.c3; have a4 := HA.out.1.c4; have a5 := HA.out.1.c5; have f0 := HA.out.2.1.f0; have f1 := HA.out.2.1.f1; have f2 := HA.out.2.1.f2; have f3 := HA.out.2.1.f3; have f4 := HA.out.2.1.f4; have f5 := HA.out.2.1.f5))
  have zw := HA.out.1.wrote (up (sg n)) true n n n (up (pr n))
  have hZ := st6_below HA.out.2.2 N (Nat.le_refl _) (.int .i64 (up (sg n))) (.bool true) (.int .i64 n) (.int .i64 n) (.int .i64 n) (.int .i64 (up (pr n)))
  clear HA c1 c2 c3 c4 a0 a1 a2 a3 a4 a5 f0 f1 f2 f3 f4 f5
  have a0 := zw.c0
  have a1 := zw.c1
  have a2 := zw.c2
  have a3 := zw.c3
  have a4 := zw.c4
  have a5 := zw.c5
  clear zw
  refine bodyPost_ret (by simp [results, Try.results41, go_sem, *]; try rfl) rfl ⟨?_, by rw [← HN.out]; exact hZ⟩
  rfl
set_option maxRecDepth 100000 in
set_option maxHeartbeats 16000000 in
theorem any_V (w : World) : Calls Try.prog 40 #[] w fun e w' => e = .returned (.agg #[.int .i64 (up anyV.s), .bool anyV.k, .int .i64 anyV.n, .int .i64 anyV.lo, .int .i64 anyV.hi, .int .i64 (up anyV.p)]) ∧ Below w.heap.size w w' := by
  have c1 := fun w => bel1 (kany_any w)
  have c2 := fun w => bel1 (nany_any w)
  have x0 : Br (w.alloc (.cells #[.int .i64 0, .bool false, .int .i64 0, .int .i64 0, .int .i64 0, .int .i64 0] 53)) (w.heap.size) 0 false 0 0 0 0 := (Br.new w 0 false 0 0 0 0 53)
  have xf : Fz (w.alloc (.cells #[.int .i64 0, .bool false, .int .i64 0, .int .i64 0, .int .i64 0, .int .i64 0] 53)) (w.heap.size) := by simpa using Fz.new w 0 false 0 0 0 0 53
  have xb : Below w.heap.size w (w.alloc (.cells #[.int .i64 0, .bool false, .int .i64 0, .int .i64 0, .int .i64 0, .int .i64 0] 53)) := (by repeat (first | exact Below.refl _ _ | (refine Below.drew ?_) | (refine below_drewN ?_ _) | (refine Below.setCell ?_ (by first | omega | (simp; done) | (simp; omega)) _) | (refine Below.alloc ?_ (by first | omega | (simp; done) | (simp; omega)) _) | (refine Below.trans ?_ (Below.mono (by assumption) (by first | omega | (simp; done) | (simp; omega))))))
  go_enter Try.func40, Try.ntmps40
  go_upto_region 1 with fail
  go_name_world W hW
  rw [hW] at x0 xf xb
  clear hW
  obtain ⟨N, hN⟩ : ∃ N, N = w.heap.size := ⟨_, rfl⟩
  rw [← hN] at x0 xf xb ⊢
  have HN : Hid (N = w.heap.size) := hN
  clear hN
  have HA := hide (And.intro x0 (And.intro xf xb))
  clear x0 xf xb
  have a0 := HA.out.1.c0
  have a1 := HA.out.1.c1
  have a2 := HA.out.1.c2
  have a3 := HA.out.1.c3
  have a4 := HA.out.1.c4
  have a5 := HA.out.1.c5
  have f0 := HA.out.2.1.f0
  have f1 := HA.out.2.1.f1
  have f2 := HA.out.2.1.f2
  have f3 := HA.out.2.1.f3
  have f4 := HA.out.2.1.f4
  have f5 := HA.out.2.1.f5
  go_wp2_with (first | (go_at_call 79; refine (c1 _).mono ?_; rintro e w1 ⟨rfl, hb1⟩; have HB := hide (And.intro (HA.out.1.keep hb1) (And.intro (HA.out.2.1.keep HA.out.1.lt hb1) (HA.out.2.2.trans (hb1.mono (Nat.le_of_lt HA.out.1.lt))))); clear HA hb1 a0 a1 a2 a3 a4 a5 f0 f1 f2 f3 f4 f5; have HA := HB; clear HB; have a0 := HA.out.1.c0; have a1 := HA.out.1.c1; have a2 := HA.out.1.c2; have a3 := HA.out.1.c3; have a4 := HA.out.1.c4; have a5 := HA.out.1.c5; have f0 := HA.out.2.1.f0; have f1 := HA.out.2.1.f1; have f2 := HA.out.2.1.f2; have f3 := HA.out.2.1.f3; have f4 := HA.out.2.1.f4; have f5 := HA.out.2.1.f5) | (go_at_call 80; refine (c2 _).mono ?_; rintro e w1 ⟨rfl, hb1⟩; have HB := hide (And.intro (HA.out.1.keep hb1) (And.intro (HA.out.2.1.keep HA.out.1.lt hb1) (HA.out.2.2.trans (hb1.mono (Nat.le_of_lt HA.out.1.lt))))); clear HA hb1 a0 a1 a2 a3 a4 a5 f0 f1 f2 f3 f4 f5; have HA := HB; clear HB; have a0 := HA.out.1.c0; have a1 := HA.out.1.c1; have a2 := HA.out.1.c2; have a3 := HA.out.1.c3; have a4 := HA.out.1.c4; have a5 := HA.out.1.c5; have f0 := HA.out.2.1.f0; have f1 := HA.out.2.1.f1; have f2 := HA.out.2.1.f2; have f3 := HA.out.2.1.f3; have f4 := HA.out.2.1.f4; have f5 := HA.out.2.1.f5))
  have zw := HA.out.1.wrote 7 false 0 (-9223372036854775808) 9223372036854775807 3
  have hZ := st6_below HA.out.2.2 N (Nat.le_refl _) (.int .i64 7) (.bool false) (.int .i64 0) (.int .i64 (-9223372036854775808)) (.int .i64 9223372036854775807) (.int .i64 3)
  clear HA c1 c2 a0 a1 a2 a3 a4 a5 f0 f1 f2 f3 f4 f5
  have a0 := zw.c0
  have a1 := zw.c1
  have a2 := zw.c2
  have a3 := zw.c3
  have a4 := zw.c4
  have a5 := zw.c5
  clear zw
  refine bodyPost_ret (by simp [results, Try.results40, go_sem, *]; try rfl) rfl ⟨?_, by rw [← HN.out]; exact hZ⟩
  rfl
def rightR (s : Int) (k : Bool) (n lo hi p : Int) : Bool := (decide (1 ≤ s) && decide (s ≤ 7)) && (rightK k n && (decide (lo ≤ hi) && (decide (1 ≤ p) && decide (p ≤ 3))))
set_option maxRecDepth 100000 in
set_option maxHeartbeats 16000000 in
theorem right_V (s : Int) (k : Bool) (n lo hi p : Int) (w : World) : Calls Try.prog 59 #[.agg #[.int .i64 s, .bool k, .int .i64 n, .int .i64 lo, .int .i64 hi, .int .i64 p]] w fun e w' => e = .returned (.bool (rightR s k n lo hi p)) ∧ Below w.heap.size w w' := by
  have c1 := fun w => bel0 (sright_any s w)
  have c2 := fun w => bel1 (kright_any k n w)
  have c3 := fun w => bel1 (nright_any lo hi w)
  have c4 := fun w => bel0 (pright_any p w)
  have HR : Hid (rightR s k n lo hi p = ((decide (1 ≤ s) && decide (s ≤ 7)) && (rightK k n && (decide (lo ≤ hi) && (decide (1 ≤ p) && decide (p ≤ 3)))))) := rfl
  generalize rightR s k n lo hi p = r at *
  generalize (decide (1 ≤ s) && decide (s ≤ 7)) = t1 at *
  generalize rightK k n = t2 at *
  generalize decide (lo ≤ hi) = t3 at *
  generalize (decide (1 ≤ p) && decide (p ≤ 3)) = t4 at *
  cases t1
  · have x0 : Br (w.alloc (.cells #[.int .i64 s, .bool k, .int .i64 n, .int .i64 lo, .int .i64 hi, .int .i64 p] 53)) (w.heap.size) s k n lo hi p := (Br.new w s k n lo hi p 53)
    have xb : Below w.heap.size w (w.alloc (.cells #[.int .i64 s, .bool k, .int .i64 n, .int .i64 lo, .int .i64 hi, .int .i64 p] 53)) := (by repeat (first | exact Below.refl _ _ | (refine Below.drew ?_) | (refine below_drewN ?_ _) | (refine Below.setCell ?_ (by first | omega | (simp; done) | (simp; omega)) _) | (refine Below.alloc ?_ (by first | omega | (simp; done) | (simp; omega)) _) | (refine Below.trans ?_ (Below.mono (by assumption) (by first | omega | (simp; done) | (simp; omega))))))
    go_enter Try.func59, Try.ntmps59
    go_upto_region 1 with fail
    go_name_world W hW
    rw [hW] at x0 xb
    clear hW
    obtain ⟨N, hN⟩ : ∃ N, N = w.heap.size := ⟨_, rfl⟩
    rw [← hN] at x0 xb ⊢
    have HN : Hid (N = w.heap.size) := hN
    clear hN
    have HA := hide (And.intro x0 xb)
    clear x0 xb
    have a0 := HA.out.1.c0
    have a1 := HA.out.1.c1
    have a2 := HA.out.1.c2
    have a3 := HA.out.1.c3
    have a4 := HA.out.1.c4
    have a5 := HA.out.1.c5
    go_wp2_with (first | (go_at_call 104; refine (c1 _).mono ?_; rintro e w1 ⟨rfl, hb1⟩; have HB := hide (And.intro (HA.out.1.keep hb1) (HA.out.2.trans (hb1.mono (Nat.le_of_lt HA.out.1.lt)))); clear HA hb1 a0 a1 a2 a3 a4 a5; have HA := HB; clear HB; have a0 := HA.out.1.c0; have a1 := HA.out.1.c1; have a2 := HA.out.1.c2; have a3 := HA.out.1.c3; have a4 := HA.out.1.c4; have a5 := HA.out.1.c5) | (go_at_call 105; refine (c2 _).mono ?_; rintro e w1 ⟨rfl, hb1⟩; have HB := hide (And.intro (HA.out.1.keep hb1) (HA.out.2.trans (hb1.mono (Nat.le_of_lt HA.out.1.lt)))); clear HA hb1 a0 a1 a2 a3 a4 a5; have HA := HB; clear HB; have a0 := HA.out.1.c0; have a1 := HA.out.1.c1; have a2 := HA.out.1.c2; have a3 := HA.out.1.c3; have a4 := HA.out.1.c4; have a5 := HA.out.1.c5) | (go_at_call 106; refine (c3 _).mono ?_; rintro e w1 ⟨rfl, hb1⟩; have HB := hide (And.intro (HA.out.1.keep hb1) (HA.out.2.trans (hb1.mono (Nat.le_of_lt HA.out.1.lt)))); clear HA hb1 a0 a1 a2 a3 a4 a5; have HA := HB; clear HB; have a0 := HA.out.1.c0; have a1 := HA.out.1.c1; have a2 := HA.out.1.c2; have a3 := HA.out.1.c3; have a4 := HA.out.1.c4; have a5 := HA.out.1.c5) | (go_at_call 107; refine (c4 _).mono ?_; rintro e w1 ⟨rfl, hb1⟩; have HB := hide (And.intro (HA.out.1.keep hb1) (HA.out.2.trans (hb1.mono (Nat.le_of_lt HA.out.1.lt)))); clear HA hb1 a0 a1 a2 a3 a4 a5; have HA := HB; clear HB; have a0 := HA.out.1.c0; have a1 := HA.out.1.c1; have a2 := HA.out.1.c2; have a3 := HA.out.1.c3; have a4 := HA.out.1.c4; have a5 := HA.out.1.c5))
    clear c1 c2 c3 c4
    go_ret
    exact ⟨by rw [HR.out]; rfl, by rw [← HN.out]; exact HA.out.2⟩
  · cases t2
    · have x0 : Br (w.alloc (.cells #[.int .i64 s, .bool k, .int .i64 n, .int .i64 lo, .int .i64 hi, .int .i64 p] 53)) (w.heap.size) s k n lo hi p := (Br.new w s k n lo hi p 53)
      have xb : Below w.heap.size w (w.alloc (.cells #[.int .i64 s, .bool k, .int .i64 n, .int .i64 lo, .int .i64 hi, .int .i64 p] 53)) := (by repeat (first | exact Below.refl _ _ | (refine Below.drew ?_) | (refine below_drewN ?_ _) | (refine Below.setCell ?_ (by first | omega | (simp; done) | (simp; omega)) _) | (refine Below.alloc ?_ (by first | omega | (simp; done) | (simp; omega)) _) | (refine Below.trans ?_ (Below.mono (by assumption) (by first | omega | (simp; done) | (simp; omega))))))
      go_enter Try.func59, Try.ntmps59
      go_upto_region 1 with fail
      go_name_world W hW
      rw [hW] at x0 xb
      clear hW
      obtain ⟨N, hN⟩ : ∃ N, N = w.heap.size := ⟨_, rfl⟩
      rw [← hN] at x0 xb ⊢
      have HN : Hid (N = w.heap.size) := hN
      clear hN
      have HA := hide (And.intro x0 xb)
      clear x0 xb
      have a0 := HA.out.1.c0
      have a1 := HA.out.1.c1
      have a2 := HA.out.1.c2
      have a3 := HA.out.1.c3
      have a4 := HA.out.1.c4
      have a5 := HA.out.1.c5
      go_wp2_with (first | (go_at_call 104; refine (c1 _).mono ?_; rintro e w1 ⟨rfl, hb1⟩; have HB := hide (And.intro (HA.out.1.keep hb1) (HA.out.2.trans (hb1.mono (Nat.le_of_lt HA.out.1.lt)))); clear HA hb1 a0 a1 a2 a3 a4 a5; have HA := HB; clear HB; have a0 := HA.out.1.c0; have a1 := HA.out.1.c1; have a2 := HA.out.1.c2; have a3 := HA.out.1.c3; have a4 := HA.out.1.c4; have a5 := HA.out.1.c5) | (go_at_call 105; refine (c2 _).mono ?_; rintro e w1 ⟨rfl, hb1⟩; have HB := hide (And.intro (HA.out.1.keep hb1) (HA.out.2.trans (hb1.mono (Nat.le_of_lt HA.out.1.lt)))); clear HA hb1 a0 a1 a2 a3 a4 a5; have HA := HB; clear HB; have a0 := HA.out.1.c0; have a1 := HA.out.1.c1; have a2 := HA.out.1.c2; have a3 := HA.out.1.c3; have a4 := HA.out.1.c4; have a5 := HA.out.1.c5) | (go_at_call 106; refine (c3 _).mono ?_; rintro e w1 ⟨rfl, hb1⟩; have HB := hide (And.intro (HA.out.1.keep hb1) (HA.out.2.trans (hb1.mono (Nat.le_of_lt HA.out.1.lt)))); clear HA hb1 a0 a1 a2 a3 a4 a5; have HA := HB; clear HB; have a0 := HA.out.1.c0; have a1 := HA.out.1.c1; have a2 := HA.out.1.c2; have a3 := HA.out.1.c3; have a4 := HA.out.1.c4; have a5 := HA.out.1.c5) | (go_at_call 107; refine (c4 _).mono ?_; rintro e w1 ⟨rfl, hb1⟩; have HB := hide (And.intro (HA.out.1.keep hb1) (HA.out.2.trans (hb1.mono (Nat.le_of_lt HA.out.1.lt)))); clear HA hb1 a0 a1 a2 a3 a4 a5; have HA := HB; clear HB; have a0 := HA.out.1.c0; have a1 := HA.out.1.c1; have a2 := HA.out.1.c2; have a3 := HA.out.1.c3; have a4 := HA.out.1.c4; have a5 := HA.out.1.c5))
      clear c1 c2 c3 c4
      go_ret
      exact ⟨by rw [HR.out]; rfl, by rw [← HN.out]; exact HA.out.2⟩
    · cases t3
      · have x0 : Br (w.alloc (.cells #[.int .i64 s, .bool k, .int .i64 n, .int .i64 lo, .int .i64 hi, .int .i64 p] 53)) (w.heap.size) s k n lo hi p := (Br.new w s k n lo hi p 53)
        have xb : Below w.heap.size w (w.alloc (.cells #[.int .i64 s, .bool k, .int .i64 n, .int .i64 lo, .int .i64 hi, .int .i64 p] 53)) := (by repeat (first | exact Below.refl _ _ | (refine Below.drew ?_) | (refine below_drewN ?_ _) | (refine Below.setCell ?_ (by first | omega | (simp; done) | (simp; omega)) _) | (refine Below.alloc ?_ (by first | omega | (simp; done) | (simp; omega)) _) | (refine Below.trans ?_ (Below.mono (by assumption) (by first | omega | (simp; done) | (simp; omega))))))
        go_enter Try.func59, Try.ntmps59
        go_upto_region 1 with fail
        go_name_world W hW
        rw [hW] at x0 xb
        clear hW
        obtain ⟨N, hN⟩ : ∃ N, N = w.heap.size := ⟨_, rfl⟩
        rw [← hN] at x0 xb ⊢
        have HN : Hid (N = w.heap.size) := hN
        clear hN
        have HA := hide (And.intro x0 xb)
        clear x0 xb
        have a0 := HA.out.1.c0
        have a1 := HA.out.1.c1
        have a2 := HA.out.1.c2
        have a3 := HA.out.1.c3
        have a4 := HA.out.1.c4
        have a5 := HA.out.1.c5
        go_wp2_with (first | (go_at_call 104; refine (c1 _).mono ?_; rintro e w1 ⟨rfl, hb1⟩; have HB := hide (And.intro (HA.out.1.keep hb1) (HA.out.2.trans (hb1.mono (Nat.le_of_lt HA.out.1.lt)))); clear HA hb1 a0 a1 a2 a3 a4 a5; have HA := HB; clear HB; have a0 := HA.out.1.c0; have a1 := HA.out.1.c1; have a2 := HA.out.1.c2; have a3 := HA.out.1.c3; have a4 := HA.out.1.c4; have a5 := HA.out.1.c5) | (go_at_call 105; refine (c2 _).mono ?_; rintro e w1 ⟨rfl, hb1⟩; have HB := hide (And.intro (HA.out.1.keep hb1) (HA.out.2.trans (hb1.mono (Nat.le_of_lt HA.out.1.lt)))); clear HA hb1 a0 a1 a2 a3 a4 a5; have HA := HB; clear HB; have a0 := HA.out.1.c0; have a1 := HA.out.1.c1; have a2 := HA.out.1.c2; have a3 := HA.out.1.c3; have a4 := HA.out.1.c4; have a5 := HA.out.1.c5) | (go_at_call 106; refine (c3 _).mono ?_; rintro e w1 ⟨rfl, hb1⟩; have HB := hide (And.intro (HA.out.1.keep hb1) (HA.out.2.trans (hb1.mono (Nat.le_of_lt HA.out.1.lt)))); clear HA hb1 a0 a1 a2 a3 a4 a5; have HA := HB; clear HB; have a0 := HA.out.1.c0; have a1 := HA.out.1.c1; have a2 := HA.out.1.c2; have a3 := HA.out.1.c3; have a4 := HA.out.1.c4; have a5 := HA.out.1.c5) | (go_at_call 107; refine (c4 _).mono ?_; rintro e w1 ⟨rfl, hb1⟩; have HB := hide (And.intro (HA.out.1.keep hb1) (HA.out.2.trans (hb1.mono (Nat.le_of_lt HA.out.1.lt)))); clear HA hb1 a0 a1 a2 a3 a4 a5; have HA := HB; clear HB; have a0 := HA.out.1.c0; have a1 := HA.out.1.c1; have a2 := HA.out.1.c2; have a3 := HA.out.1.c3; have a4 := HA.out.1.c4; have a5 := HA.out.1.c5))
        clear c1 c2 c3 c4
        go_ret
        exact ⟨by rw [HR.out]; rfl, by rw [← HN.out]; exact HA.out.2⟩
      · have x0 : Br (w.alloc (.cells #[.int .i64 s, .bool k, .int .i64 n, .int .i64 lo, .int .i64 hi, .int .i64 p] 53)) (w.heap.size) s k n lo hi p := (Br.new w s k n lo hi p 53)
        have xb : Below w.heap.size w (w.alloc (.cells #[.int .i64 s, .bool k, .int .i64 n, .int .i64 lo, .int .i64 hi, .int .i64 p] 53)) := (by repeat (first | exact Below.refl _ _ | (refine Below.drew ?_) | (refine below_drewN ?_ _) | (refine Below.setCell ?_ (by first | omega | (simp; done) | (simp; omega)) _) | (refine Below.alloc ?_ (by first | omega | (simp; done) | (simp; omega)) _) | (refine Below.trans ?_ (Below.mono (by assumption) (by first | omega | (simp; done) | (simp; omega))))))
        go_enter Try.func59, Try.ntmps59
        go_upto_region 1 with fail
        go_name_world W hW
        rw [hW] at x0 xb
        clear hW
        obtain ⟨N, hN⟩ : ∃ N, N = w.heap.size := ⟨_, rfl⟩
        rw [← hN] at x0 xb ⊢
        have HN : Hid (N = w.heap.size) := hN
        clear hN
        have HA := hide (And.intro x0 xb)
        clear x0 xb
        have a0 := HA.out.1.c0
        have a1 := HA.out.1.c1
        have a2 := HA.out.1.c2
        have a3 := HA.out.1.c3
        have a4 := HA.out.1.c4
        have a5 := HA.out.1.c5
        go_wp2_with (first | (go_at_call 104; refine (c1 _).mono ?_; rintro e w1 ⟨rfl, hb1⟩; have HB := hide (And.intro (HA.out.1.keep hb1) (HA.out.2.trans (hb1.mono (Nat.le_of_lt HA.out.1.lt)))); clear HA hb1 a0 a1 a2 a3 a4 a5; have HA := HB; clear HB; have a0 := HA.out.1.c0; have a1 := HA.out.1.c1; have a2 := HA.out.1.c2; have a3 := HA.out.1.c3; have a4 := HA.out.1.c4; have a5 := HA.out.1.c5) | (go_at_call 105; refine (c2 _).mono ?_; rintro e w1 ⟨rfl, hb1⟩; have HB := hide (And.intro (HA.out.1.keep hb1) (HA.out.2.trans (hb1.mono (Nat.le_of_lt HA.out.1.lt)))); clear HA hb1 a0 a1 a2 a3 a4 a5; have HA := HB; clear HB; have a0 := HA.out.1.c0; have a1 := HA.out.1.c1; have a2 := HA.out.1.c2; have a3 := HA.out.1.c3; have a4 := HA.out.1.c4; have a5 := HA.out.1.c5) | (go_at_call 106; refine (c3 _).mono ?_; rintro e w1 ⟨rfl, hb1⟩; have HB := hide (And.intro (HA.out.1.keep hb1) (HA.out.2.trans (hb1.mono (Nat.le_of_lt HA.out.1.lt)))); clear HA hb1 a0 a1 a2 a3 a4 a5; have HA := HB; clear HB; have a0 := HA.out.1.c0; have a1 := HA.out.1.c1; have a2 := HA.out.1.c2; have a3 := HA.out.1.c3; have a4 := HA.out.1.c4; have a5 := HA.out.1.c5) | (go_at_call 107; refine (c4 _).mono ?_; rintro e w1 ⟨rfl, hb1⟩; have HB := hide (And.intro (HA.out.1.keep hb1) (HA.out.2.trans (hb1.mono (Nat.le_of_lt HA.out.1.lt)))); clear HA hb1 a0 a1 a2 a3 a4 a5; have HA := HB; clear HB; have a0 := HA.out.1.c0; have a1 := HA.out.1.c1; have a2 := HA.out.1.c2; have a3 := HA.out.1.c3; have a4 := HA.out.1.c4; have a5 := HA.out.1.c5))
        clear c1 c2 c3 c4
        go_ret
        exact ⟨by rw [HR.out]; rfl, by rw [← HN.out]; exact HA.out.2⟩
end Go.Proofs.Ytmhicllhjiglkaa
namespace Go.Proofs.Ytmhicllhjiglkaa
open Go.RowKit
set_option maxRecDepth 100000 in
set_option maxHeartbeats 16000000 in
theorem rightr_V (s : Int) (k : Bool) (n lo hi p : Int) (w : World) : Calls Try.prog 61 #[.agg #[.int .i64 s, .bool k, .int .i64 n, .int .i64 lo, .int .i64 hi, .int .i64 p]] w fun e w' => e = .returned (.bool (rightR s k n lo hi p)) ∧ Below w.heap.size w w' := by
  by_cases h0 : 1 ≤ s
  · by_cases h1 : s ≤ 7
    · cases k
      · by_cases hn : n = 0
        · subst hn
          by_cases h3 : lo ≤ hi
          · by_cases h4 : 1 ≤ p
            · by_cases h5 : p ≤ 3
              · have HR : Hid (rightR s false 0 lo hi p = true) := by unfold Hid rightR rightK; simp [*]
                generalize rightR s false 0 lo hi p = r at *
                have x0 : Br (w.alloc (.cells #[.int .i64 s, .bool false, .int .i64 0, .int .i64 lo, .int .i64 hi, .int .i64 p] 48)) (w.heap.size) s false 0 lo hi p := (Br.new w s false 0 lo hi p 48)
                have xb : Below w.heap.size w (w.alloc (.cells #[.int .i64 s, .bool false, .int .i64 0, .int .i64 lo, .int .i64 hi, .int .i64 p] 48)) := (by repeat (first | exact Below.refl _ _ | (refine Below.drew ?_) | (refine below_drewN ?_ _) | (refine Below.setCell ?_ (by first | omega | (simp; done) | (simp; omega)) _) | (refine Below.alloc ?_ (by first | omega | (simp; done) | (simp; omega)) _) | (refine Below.trans ?_ (Below.mono (by assumption) (by first | omega | (simp; done) | (simp; omega))))))
                go_enter Try.func61, Try.ntmps61
                go_upto_region 1 with fail
                go_name_world W hW
                rw [hW] at x0 xb
                clear hW
                obtain ⟨N, hN⟩ : ∃ N, N = w.heap.size := ⟨_, rfl⟩
                rw [← hN] at x0 xb ⊢
                have HN : Hid (N = w.heap.size) := hN
                clear hN
                have a0 := x0.c0
                have a1 := x0.c1
                have a2 := x0.c2
                have a3 := x0.c3
                have a4 := x0.c4
                have a5 := x0.c5
                clear x0
                go_wp2_with fail
                go_ret
                exact ⟨by rw [HR.out] <;> rfl, by rw [← HN.out]; exact xb⟩
              · have HR : Hid (rightR s false 0 lo hi p = false) := by unfold Hid rightR rightK; simp [*]
                generalize rightR s false 0 lo hi p = r at *
                have x0 : Br (w.alloc (.cells #[.int .i64 s, .bool false, .int .i64 0, .int .i64 lo, .int .i64 hi, .int .i64 p] 48)) (w.heap.size) s false 0 lo hi p := (Br.new w s false 0 lo hi p 48)
                have xb : Below w.heap.size w (w.alloc (.cells #[.int .i64 s, .bool false, .int .i64 0, .int .i64 lo, .int .i64 hi, .int .i64 p] 48)) := (by repeat (first | exact Below.refl _ _ | (refine Below.drew ?_) | (refine below_drewN ?_ _) | (refine Below.setCell ?_ (by first | omega | (simp; done) | (simp; omega)) _) | (refine Below.alloc ?_ (by first | omega | (simp; done) | (simp; omega)) _) | (refine Below.trans ?_ (Below.mono (by assumption) (by first | omega | (simp; done) | (simp; omega))))))
                go_enter Try.func61, Try.ntmps61
                go_upto_region 1 with fail
                go_name_world W hW
                rw [hW] at x0 xb
                clear hW
                obtain ⟨N, hN⟩ : ∃ N, N = w.heap.size := ⟨_, rfl⟩
                rw [← hN] at x0 xb ⊢
                have HN : Hid (N = w.heap.size) := hN
                clear hN
                have a0 := x0.c0
                have a1 := x0.c1
                have a2 := x0.c2
                have a3 := x0.c3
                have a4 := x0.c4
                have a5 := x0.c5
                clear x0
                go_wp2_with fail
                go_ret
                exact ⟨by rw [HR.out] <;> rfl, by rw [← HN.out]; exact xb⟩
            · have HR : Hid (rightR s false 0 lo hi p = false) := by unfold Hid rightR rightK; simp [*]
              generalize rightR s false 0 lo hi p = r at *
              have x0 : Br (w.alloc (.cells #[.int .i64 s, .bool false, .int .i64 0, .int .i64 lo, .int .i64 hi, .int .i64 p] 48)) (w.heap.size) s false 0 lo hi p := (Br.new w s false 0 lo hi p 48)
              have xb : Below w.heap.size w (w.alloc (.cells #[.int .i64 s, .bool false, .int .i64 0, .int .i64 lo, .int .i64 hi, .int .i64 p] 48)) := (by repeat (first | exact Below.refl _ _ | (refine Below.drew ?_) | (refine below_drewN ?_ _) | (refine Below.setCell ?_ (by first | omega | (simp; done) | (simp; omega)) _) | (refine Below.alloc ?_ (by first | omega | (simp; done) | (simp; omega)) _) | (refine Below.trans ?_ (Below.mono (by assumption) (by first | omega | (simp; done) | (simp; omega))))))
              go_enter Try.func61, Try.ntmps61
              go_upto_region 1 with fail
              go_name_world W hW
              rw [hW] at x0 xb
              clear hW
              obtain ⟨N, hN⟩ : ∃ N, N = w.heap.size := ⟨_, rfl⟩
              rw [← hN] at x0 xb ⊢
              have HN : Hid (N = w.heap.size) := hN
              clear hN
              have a0 := x0.c0
              have a1 := x0.c1
              have a2 := x0.c2
              have a3 := x0.c3
              have a4 := x0.c4
              have a5 := x0.c5
              clear x0
              go_wp2_with fail
              go_ret
              exact ⟨by rw [HR.out] <;> rfl, by rw [← HN.out]; exact xb⟩
          · have HR : Hid (rightR s false 0 lo hi p = false) := by unfold Hid rightR rightK; simp [*]
            generalize rightR s false 0 lo hi p = r at *
            have x0 : Br (w.alloc (.cells #[.int .i64 s, .bool false, .int .i64 0, .int .i64 lo, .int .i64 hi, .int .i64 p] 48)) (w.heap.size) s false 0 lo hi p := (Br.new w s false 0 lo hi p 48)
            have xb : Below w.heap.size w (w.alloc (.cells #[.int .i64 s, .bool false, .int .i64 0, .int .i64 lo, .int .i64 hi, .int .i64 p] 48)) := (by repeat (first | exact Below.refl _ _ | (refine Below.drew ?_) | (refine below_drewN ?_ _) | (refine Below.setCell ?_ (by first | omega | (simp; done) | (simp; omega)) _) | (refine Below.alloc ?_ (by first | omega | (simp; done) | (simp; omega)) _) | (refine Below.trans ?_ (Below.mono (by assumption) (by first | omega | (simp; done) | (simp; omega))))))
            go_enter Try.func61, Try.ntmps61
            go_upto_region 1 with fail
            go_name_world W hW
            rw [hW] at x0 xb
            clear hW
            obtain ⟨N, hN⟩ : ∃ N, N = w.heap.size := ⟨_, rfl⟩
            rw [← hN] at x0 xb ⊢
            have HN : Hid (N = w.heap.size) := hN
            clear hN
            have a0 := x0.c0
            have a1 := x0.c1
            have a2 := x0.c2
            have a3 := x0.c3
            have a4 := x0.c4
            have a5 := x0.c5
            clear x0
            go_wp2_with fail
            go_ret
            exact ⟨by rw [HR.out] <;> rfl, by rw [← HN.out]; exact xb⟩
        · have HR : Hid (rightR s false n lo hi p = false) := by unfold Hid rightR rightK; simp [*]
          generalize rightR s false n lo hi p = r at *
          have x0 : Br (w.alloc (.cells #[.int .i64 s, .bool false, .int .i64 n, .int .i64 lo, .int .i64 hi, .int .i64 p] 48)) (w.heap.size) s false n lo hi p := (Br.new w s false n lo hi p 48)
          have xb : Below w.heap.size w (w.alloc (.cells #[.int .i64 s, .bool false, .int .i64 n, .int .i64 lo, .int .i64 hi, .int .i64 p] 48)) := (by repeat (first | exact Below.refl _ _ | (refine Below.drew ?_) | (refine below_drewN ?_ _) | (refine Below.setCell ?_ (by first | omega | (simp; done) | (simp; omega)) _) | (refine Below.alloc ?_ (by first | omega | (simp; done) | (simp; omega)) _) | (refine Below.trans ?_ (Below.mono (by assumption) (by first | omega | (simp; done) | (simp; omega))))))
          go_enter Try.func61, Try.ntmps61
          go_upto_region 1 with fail
          go_name_world W hW
          rw [hW] at x0 xb
          clear hW
          obtain ⟨N, hN⟩ : ∃ N, N = w.heap.size := ⟨_, rfl⟩
          rw [← hN] at x0 xb ⊢
          have HN : Hid (N = w.heap.size) := hN
          clear hN
          have a0 := x0.c0
          have a1 := x0.c1
          have a2 := x0.c2
          have a3 := x0.c3
          have a4 := x0.c4
          have a5 := x0.c5
          clear x0
          go_wp2_with fail
          go_ret
          exact ⟨by rw [HR.out] <;> rfl, by rw [← HN.out]; exact xb⟩
      · by_cases h3 : lo ≤ hi
        · by_cases h4 : 1 ≤ p
          · by_cases h5 : p ≤ 3
            · have HR : Hid (rightR s true n lo hi p = true) := by unfold Hid rightR rightK; simp [*]
              generalize rightR s true n lo hi p = r at *
              have x0 : Br (w.alloc (.cells #[.int .i64 s, .bool true, .int .i64 n, .int .i64 lo, .int .i64 hi, .int .i64 p] 48)) (w.heap.size) s true n lo hi p := (Br.new w s true n lo hi p 48)
              have xb : Below w.heap.size w (w.alloc (.cells #[.int .i64 s, .bool true, .int .i64 n, .int .i64 lo, .int .i64 hi, .int .i64 p] 48)) := (by repeat (first | exact Below.refl _ _ | (refine Below.drew ?_) | (refine below_drewN ?_ _) | (refine Below.setCell ?_ (by first | omega | (simp; done) | (simp; omega)) _) | (refine Below.alloc ?_ (by first | omega | (simp; done) | (simp; omega)) _) | (refine Below.trans ?_ (Below.mono (by assumption) (by first | omega | (simp; done) | (simp; omega))))))
              go_enter Try.func61, Try.ntmps61
              go_upto_region 1 with fail
              go_name_world W hW
              rw [hW] at x0 xb
              clear hW
              obtain ⟨N, hN⟩ : ∃ N, N = w.heap.size := ⟨_, rfl⟩
              rw [← hN] at x0 xb ⊢
              have HN : Hid (N = w.heap.size) := hN
              clear hN
              have a0 := x0.c0
              have a1 := x0.c1
              have a2 := x0.c2
              have a3 := x0.c3
              have a4 := x0.c4
              have a5 := x0.c5
              clear x0
              go_wp2_with fail
              go_ret
              exact ⟨by rw [HR.out] <;> rfl, by rw [← HN.out]; exact xb⟩
            · have HR : Hid (rightR s true n lo hi p = false) := by unfold Hid rightR rightK; simp [*]
              generalize rightR s true n lo hi p = r at *
              have x0 : Br (w.alloc (.cells #[.int .i64 s, .bool true, .int .i64 n, .int .i64 lo, .int .i64 hi, .int .i64 p] 48)) (w.heap.size) s true n lo hi p := (Br.new w s true n lo hi p 48)
              have xb : Below w.heap.size w (w.alloc (.cells #[.int .i64 s, .bool true, .int .i64 n, .int .i64 lo, .int .i64 hi, .int .i64 p] 48)) := (by repeat (first | exact Below.refl _ _ | (refine Below.drew ?_) | (refine below_drewN ?_ _) | (refine Below.setCell ?_ (by first | omega | (simp; done) | (simp; omega)) _) | (refine Below.alloc ?_ (by first | omega | (simp; done) | (simp; omega)) _) | (refine Below.trans ?_ (Below.mono (by assumption) (by first | omega | (simp; done) | (simp; omega))))))
              go_enter Try.func61, Try.ntmps61
              go_upto_region 1 with fail
              go_name_world W hW
              rw [hW] at x0 xb
              clear hW
              obtain ⟨N, hN⟩ : ∃ N, N = w.heap.size := ⟨_, rfl⟩
              rw [← hN] at x0 xb ⊢
              have HN : Hid (N = w.heap.size) := hN
              clear hN
              have a0 := x0.c0
              have a1 := x0.c1
              have a2 := x0.c2
              have a3 := x0.c3
              have a4 := x0.c4
              have a5 := x0.c5
              clear x0
              go_wp2_with fail
              go_ret
              exact ⟨by rw [HR.out] <;> rfl, by rw [← HN.out]; exact xb⟩
          · have HR : Hid (rightR s true n lo hi p = false) := by unfold Hid rightR rightK; simp [*]
            generalize rightR s true n lo hi p = r at *
            have x0 : Br (w.alloc (.cells #[.int .i64 s, .bool true, .int .i64 n, .int .i64 lo, .int .i64 hi, .int .i64 p] 48)) (w.heap.size) s true n lo hi p := (Br.new w s true n lo hi p 48)
            have xb : Below w.heap.size w (w.alloc (.cells #[.int .i64 s, .bool true, .int .i64 n, .int .i64 lo, .int .i64 hi, .int .i64 p] 48)) := (by repeat (first | exact Below.refl _ _ | (refine Below.drew ?_) | (refine below_drewN ?_ _) | (refine Below.setCell ?_ (by first | omega | (simp; done) | (simp; omega)) _) | (refine Below.alloc ?_ (by first | omega | (simp; done) | (simp; omega)) _) | (refine Below.trans ?_ (Below.mono (by assumption) (by first | omega | (simp; done) | (simp; omega))))))
            go_enter Try.func61, Try.ntmps61
            go_upto_region 1 with fail
            go_name_world W hW
            rw [hW] at x0 xb
            clear hW
            obtain ⟨N, hN⟩ : ∃ N, N = w.heap.size := ⟨_, rfl⟩
            rw [← hN] at x0 xb ⊢
            have HN : Hid (N = w.heap.size) := hN
            clear hN
            have a0 := x0.c0
            have a1 := x0.c1
            have a2 := x0.c2
            have a3 := x0.c3
            have a4 := x0.c4
            have a5 := x0.c5
            clear x0
            go_wp2_with fail
            go_ret
            exact ⟨by rw [HR.out] <;> rfl, by rw [← HN.out]; exact xb⟩
        · have HR : Hid (rightR s true n lo hi p = false) := by unfold Hid rightR rightK; simp [*]
          generalize rightR s true n lo hi p = r at *
          have x0 : Br (w.alloc (.cells #[.int .i64 s, .bool true, .int .i64 n, .int .i64 lo, .int .i64 hi, .int .i64 p] 48)) (w.heap.size) s true n lo hi p := (Br.new w s true n lo hi p 48)
          have xb : Below w.heap.size w (w.alloc (.cells #[.int .i64 s, .bool true, .int .i64 n, .int .i64 lo, .int .i64 hi, .int .i64 p] 48)) := (by repeat (first | exact Below.refl _ _ | (refine Below.drew ?_) | (refine below_drewN ?_ _) | (refine Below.setCell ?_ (by first | omega | (simp; done) | (simp; omega)) _) | (refine Below.alloc ?_ (by first | omega | (simp; done) | (simp; omega)) _) | (refine Below.trans ?_ (Below.mono (by assumption) (by first | omega | (simp; done) | (simp; omega))))))
          go_enter Try.func61, Try.ntmps61
          go_upto_region 1 with fail
          go_name_world W hW
          rw [hW] at x0 xb
          clear hW
          obtain ⟨N, hN⟩ : ∃ N, N = w.heap.size := ⟨_, rfl⟩
          rw [← hN] at x0 xb ⊢
          have HN : Hid (N = w.heap.size) := hN
          clear hN
          have a0 := x0.c0
          have a1 := x0.c1
          have a2 := x0.c2
          have a3 := x0.c3
          have a4 := x0.c4
          have a5 := x0.c5
          clear x0
          go_wp2_with fail
          go_ret
          exact ⟨by rw [HR.out] <;> rfl, by rw [← HN.out]; exact xb⟩
    · have HR : Hid (rightR s k n lo hi p = false) := by unfold Hid rightR rightK; simp [*]
      generalize rightR s k n lo hi p = r at *
      have x0 : Br (w.alloc (.cells #[.int .i64 s, .bool k, .int .i64 n, .int .i64 lo, .int .i64 hi, .int .i64 p] 48)) (w.heap.size) s k n lo hi p := (Br.new w s k n lo hi p 48)
      have xb : Below w.heap.size w (w.alloc (.cells #[.int .i64 s, .bool k, .int .i64 n, .int .i64 lo, .int .i64 hi, .int .i64 p] 48)) := (by repeat (first | exact Below.refl _ _ | (refine Below.drew ?_) | (refine below_drewN ?_ _) | (refine Below.setCell ?_ (by first | omega | (simp; done) | (simp; omega)) _) | (refine Below.alloc ?_ (by first | omega | (simp; done) | (simp; omega)) _) | (refine Below.trans ?_ (Below.mono (by assumption) (by first | omega | (simp; done) | (simp; omega))))))
      go_enter Try.func61, Try.ntmps61
      go_upto_region 1 with fail
      go_name_world W hW
      rw [hW] at x0 xb
      clear hW
      obtain ⟨N, hN⟩ : ∃ N, N = w.heap.size := ⟨_, rfl⟩
      rw [← hN] at x0 xb ⊢
      have HN : Hid (N = w.heap.size) := hN
      clear hN
      have a0 := x0.c0
      have a1 := x0.c1
      have a2 := x0.c2
      have a3 := x0.c3
      have a4 := x0.c4
      have a5 := x0.c5
      clear x0
      go_wp2_with fail
      go_ret
      exact ⟨by rw [HR.out] <;> rfl, by rw [← HN.out]; exact xb⟩
  · have HR : Hid (rightR s k n lo hi p = false) := by unfold Hid rightR rightK; simp [*]
    generalize rightR s k n lo hi p = r at *
    have x0 : Br (w.alloc (.cells #[.int .i64 s, .bool k, .int .i64 n, .int .i64 lo, .int .i64 hi, .int .i64 p] 48)) (w.heap.size) s k n lo hi p := (Br.new w s k n lo hi p 48)
    have xb : Below w.heap.size w (w.alloc (.cells #[.int .i64 s, .bool k, .int .i64 n, .int .i64 lo, .int .i64 hi, .int .i64 p] 48)) := (by repeat (first | exact Below.refl _ _ | (refine Below.drew ?_) | (refine below_drewN ?_ _) | (refine Below.setCell ?_ (by first | omega | (simp; done) | (simp; omega)) _) | (refine Below.alloc ?_ (by first | omega | (simp; done) | (simp; omega)) _) | (refine Below.trans ?_ (Below.mono (by assumption) (by first | omega | (simp; done) | (simp; omega))))))
    go_enter Try.func61, Try.ntmps61
    go_upto_region 1 with fail
    go_name_world W hW
    rw [hW] at x0 xb
    clear hW
    obtain ⟨N, hN⟩ : ∃ N, N = w.heap.size := ⟨_, rfl⟩
    rw [← hN] at x0 xb ⊢
    have HN : Hid (N = w.heap.size) := hN
    clear hN
    have a0 := x0.c0
    have a1 := x0.c1
    have a2 := x0.c2
    have a3 := x0.c3
    have a4 := x0.c4
    have a5 := x0.c5
    clear x0
    go_wp2_with fail
    go_ret
    exact ⟨by rw [HR.out] <;> rfl, by rw [← HN.out]; exact xb⟩
end Go.Proofs.Ytmhicllhjiglkaa
namespace Go.Proofs.Ytmhicllhjiglkaa
open Go.RowKit
set_option maxRecDepth 100000 in
set_option maxHeartbeats 16000000 in
theorem within_V (x y : V) (w : World) (hx : x.p &&& 3 = x.p) (hy : y.p &&& 3 = y.p) : Calls Try.prog 48 #[.agg #[.int .i64 (up x.s), .bool x.k, .int .i64 x.n, .int .i64 x.lo, .int .i64 x.hi, .int .i64 (up x.p)], .agg #[.int .i64 (up y.s), .bool y.k, .int .i64 y.n, .int .i64 y.lo, .int .i64 y.hi, .int .i64 (up y.p)]] w fun e w' => e = .returned (.bool (withinV x y)) ∧ Below w.heap.size w w' := by
  have c1 := fun w => swithinB x.s y.s w
  have c2 := fun w => kwithin_any x.k x.n y.k y.n w
  have c3 := fun w => bel2 (nwithin_any x.lo x.hi y.lo y.hi w)
  have c4 := fun w => pwithinB x.p y.p w hx hy
  have HR : Hid (withinV x y = (withinS x.s y.s && (withinK x.k x.n y.k y.n && (withinR x.lo x.hi y.lo y.hi && withinS x.p y.p)))) := rfl
  generalize withinV x y = r at *
  generalize withinS x.s y.s = t1 at *
  generalize withinK x.k x.n y.k y.n = t2 at *
  generalize withinR x.lo x.hi y.lo y.hi = t3 at *
  generalize withinS x.p y.p = t4 at *
  clear hx hy
  cases t1
  · have x0 : Br ((w.alloc (.cells #[.int .i64 (up x.s), .bool x.k, .int .i64 x.n, .int .i64 x.lo, .int .i64 x.hi, .int .i64 (up x.p)] 53)).alloc (.cells #[.int .i64 (up y.s), .bool y.k, .int .i64 y.n, .int .i64 y.lo, .int .i64 y.hi, .int .i64 (up y.p)] 53)) (w.heap.size) (up x.s) x.k x.n x.lo x.hi (up x.p) := ((Br.new w (up x.s) x.k x.n x.lo x.hi (up x.p) 53)).keep ((Below.refl _ _).alloc (Nat.le_refl _) _)
    have x1 : Br ((w.alloc (.cells #[.int .i64 (up x.s), .bool x.k, .int .i64 x.n, .int .i64 x.lo, .int .i64 x.hi, .int .i64 (up x.p)] 53)).alloc (.cells #[.int .i64 (up y.s), .bool y.k, .int .i64 y.n, .int .i64 y.lo, .int .i64 y.hi, .int .i64 (up y.p)] 53)) (w.heap.size + 1) (up y.s) y.k y.n y.lo y.hi (up y.p) := (by simpa using Br.new (w.alloc (.cells #[.int .i64 (up x.s), .bool x.k, .int .i64 x.n, .int .i64 x.lo, .int .i64 x.hi, .int .i64 (up x.p)] 53)) (up y.s) y.k y.n y.lo y.hi (up y.p) 53 : Br ((w.alloc (.cells #[.int .i64 (up x.s), .bool x.k, .int .i64 x.n, .int .i64 x.lo, .int .i64 x.hi, .int .i64 (up x.p)] 53)).alloc (.cells #[.int .i64 (up y.s), .bool y.k, .int .i64 y.n, .int .i64 y.lo, .int .i64 y.hi, .int .i64 (up y.p)] 53)) (w.heap.size + 1) (up y.s) y.k y.n y.lo y.hi (up y.p))
    have xb : Below w.heap.size w ((w.alloc (.cells #[.int .i64 (up x.s), .bool x.k, .int .i64 x.n, .int .i64 x.lo, .int .i64 x.hi, .int .i64 (up x.p)] 53)).alloc (.cells #[.int .i64 (up y.s), .bool y.k, .int .i64 y.n, .int .i64 y.lo, .int .i64 y.hi, .int .i64 (up y.p)] 53)) := (by repeat (first | exact Below.refl _ _ | (refine Below.drew ?_) | (refine below_drewN ?_ _) | (refine Below.setCell ?_ (by first | omega | (simp; done) | (simp; omega)) _) | (refine Below.alloc ?_ (by first | omega | (simp; done) | (simp; omega)) _) | (refine Below.trans ?_ (Below.mono (by assumption) (by first | omega | (simp; done) | (simp; omega))))))
    go_enter Try.func48, Try.ntmps48
    go_upto_region 1 with fail
    go_name_world W hW
    rw [hW] at x0 x1 xb
    clear hW
    obtain ⟨N, hN⟩ : ∃ N, N = w.heap.size := ⟨_, rfl⟩
    rw [← hN] at x0 x1 xb ⊢
    have HN : Hid (N = w.heap.size) := hN
    clear hN
    have HA := hide (And.intro x0 (And.intro x1 xb))
    clear x0 x1 xb
    have a0 := HA.out.1.c0
    have a1 := HA.out.1.c1
    have a2 := HA.out.1.c2
    have a3 := HA.out.1.c3
    have a4 := HA.out.1.c4
    have a5 := HA.out.1.c5
    have b0 := HA.out.2.1.c0
    have b1 := HA.out.2.1.c1
    have b2 := HA.out.2.1.c2
    have b3 := HA.out.2.1.c3
    have b4 := HA.out.2.1.c4
    have b5 := HA.out.2.1.c5
    go_wp2_with (first | (go_at_call 95; refine (c1 _).mono ?_; rintro e w1 ⟨rfl, hb1⟩; have HB := hide (And.intro (HA.out.1.keep hb1) (And.intro (HA.out.2.1.keep hb1) (HA.out.2.2.trans (hb1.mono (Nat.le_of_lt HA.out.1.lt))))); clear HA hb1 a0 a1 a2 a3 a4 a5 b0 b1 b2 b3 b4 b5; have HA := HB; clear HB; have a0 := HA.out.1.c0; have a1 := HA.out.1.c1; have a2 := HA.out.1.c2; have a3 := HA.out.1.c3; have a4 := HA.out.1.c4; have a5 := HA.out.1.c5; have b0 := HA.out.2.1.c0; have b1 := HA.out.2.1.c1; have b2 := HA.out.2.1.c2; have b3 := HA.out.2.1.c3; have b4 := HA.out.2.1.c4; have b5 := HA.out.2.1.c5) | (go_at_call 96; refine (c2 _).mono ?_; rintro e w1 ⟨rfl, hb1⟩; have HB := hide (And.intro (HA.out.1.keep hb1) (And.intro (HA.out.2.1.keep hb1) (HA.out.2.2.trans (hb1.mono (Nat.le_of_lt HA.out.1.lt))))); clear HA hb1 a0 a1 a2 a3 a4 a5 b0 b1 b2 b3 b4 b5; have HA := HB; clear HB; have a0 := HA.out.1.c0; have a1 := HA.out.1.c1; have a2 := HA.out.1.c2; have a3 := HA.out.1.c3; have a4 := HA.out.1.c4; have a5 := HA.out.1.c5; have b0 := HA.out.2.1.c0; have b1 := HA.out.2.1.c1; have b2 := HA.out.2.1.c2; have b3 := HA.out.2.1.c3; have b4 := HA.out.2.1.c4; have b5 := HA.out.2.1.c5) | (go_at_call 97; refine (c3 _).mono ?_; rintro e w1 ⟨rfl, hb1⟩; have HB := hide (And.intro (HA.out.1.keep hb1) (And.intro (HA.out.2.1.keep hb1) (HA.out.2.2.trans (hb1.mono (Nat.le_of_lt HA.out.1.lt))))); clear HA hb1 a0 a1 a2 a3 a4 a5 b0 b1 b2 b3 b4 b5; have HA := HB; clear HB; have a0 := HA.out.1.c0; have a1 := HA.out.1.c1; have a2 := HA.out.1.c2; have a3 := HA.out.1.c3; have a4 := HA.out.1.c4; have a5 := HA.out.1.c5; have b0 := HA.out.2.1.c0; have b1 := HA.out.2.1.c1; have b2 := HA.out.2.1.c2; have b3 := HA.out.2.1.c3; have b4 := HA.out.2.1.c4; have b5 := HA.out.2.1.c5) | (go_at_call 98; refine (c4 _).mono ?_; rintro e w1 ⟨rfl, hb1⟩; have HB := hide (And.intro (HA.out.1.keep hb1) (And.intro (HA.out.2.1.keep hb1) (HA.out.2.2.trans (hb1.mono (Nat.le_of_lt HA.out.1.lt))))); clear HA hb1 a0 a1 a2 a3 a4 a5 b0 b1 b2 b3 b4 b5; have HA := HB; clear HB; have a0 := HA.out.1.c0; have a1 := HA.out.1.c1; have a2 := HA.out.1.c2; have a3 := HA.out.1.c3; have a4 := HA.out.1.c4; have a5 := HA.out.1.c5; have b0 := HA.out.2.1.c0; have b1 := HA.out.2.1.c1; have b2 := HA.out.2.1.c2; have b3 := HA.out.2.1.c3; have b4 := HA.out.2.1.c4; have b5 := HA.out.2.1.c5))
    clear c1 c2 c3 c4
    go_ret
    exact ⟨by rw [HR.out]; rfl, by rw [← HN.out]; exact HA.out.2.2⟩
  · cases t2
    · have x0 : Br ((w.alloc (.cells #[.int .i64 (up x.s), .bool x.k, .int .i64 x.n, .int .i64 x.lo, .int .i64 x.hi, .int .i64 (up x.p)] 53)).alloc (.cells #[.int .i64 (up y.s), .bool y.k, .int .i64 y.n, .int .i64 y.lo, .int .i64 y.hi, .int .i64 (up y.p)] 53)) (w.heap.size) (up x.s) x.k x.n x.lo x.hi (up x.p) := ((Br.new w (up x.s) x.k x.n x.lo x.hi (up x.p) 53)).keep ((Below.refl _ _).alloc (Nat.le_refl _) _)
      have x1 : Br ((w.alloc (.cells #[.int .i64 (up x.s), .bool x.k, .int .i64 x.n, .int .i64 x.lo, .int .i64 x.hi, .int .i64 (up x.p)] 53)).alloc (.cells #[.int .i64 (up y.s), .bool y.k, .int .i64 y.n, .int .i64 y.lo, .int .i64 y.hi, .int .i64 (up y.p)] 53)) (w.heap.size + 1) (up y.s) y.k y.n y.lo y.hi (up y.p) := (by simpa using Br.new (w.alloc (.cells #[.int .i64 (up x.s), .bool x.k, .int .i64 x.n, .int .i64 x.lo, .int .i64 x.hi, .int .i64 (up x.p)] 53)) (up y.s) y.k y.n y.lo y.hi (up y.p) 53 : Br ((w.alloc (.cells #[.int .i64 (up x.s), .bool x.k, .int .i64 x.n, .int .i64 x.lo, .int .i64 x.hi, .int .i64 (up x.p)] 53)).alloc (.cells #[.int .i64 (up y.s), .bool y.k, .int .i64 y.n, .int .i64 y.lo, .int .i64 y.hi, .int .i64 (up y.p)] 53)) (w.heap.size + 1) (up y.s) y.k y.n y.lo y.hi (up y.p))
      have xb : Below w.heap.size w ((w.alloc (.cells #[.int .i64 (up x.s), .bool x.k, .int .i64 x.n, .int .i64 x.lo, .int .i64 x.hi, .int .i64 (up x.p)] 53)).alloc (.cells #[.int .i64 (up y.s), .bool y.k, .int .i64 y.n, .int .i64 y.lo, .int .i64 y.hi, .int .i64 (up y.p)] 53)) := (by repeat (first | exact Below.refl _ _ | (refine Below.drew ?_) | (refine below_drewN ?_ _) | (refine Below.setCell ?_ (by first | omega | (simp; done) | (simp; omega)) _) | (refine Below.alloc ?_ (by first | omega | (simp; done) | (simp; omega)) _) | (refine Below.trans ?_ (Below.mono (by assumption) (by first | omega | (simp; done) | (simp; omega))))))
      go_enter Try.func48, Try.ntmps48
      go_upto_region 1 with fail
      go_name_world W hW
      rw [hW] at x0 x1 xb
      clear hW
      obtain ⟨N, hN⟩ : ∃ N, N = w.heap.size := ⟨_, rfl⟩
      rw [← hN] at x0 x1 xb ⊢
      have HN : Hid (N = w.heap.size) := hN
      clear hN
      have HA := hide (And.intro x0 (And.intro x1 xb))
      clear x0 x1 xb
      have a0 := HA.out.1.c0
      have a1 := HA.out.1.c1
      have a2 := HA.out.1.c2
      have a3 := HA.out.1.c3
      have a4 := HA.out.1.c4
      have a5 := HA.out.1.c5
      have b0 := HA.out.2.1.c0
      have b1 := HA.out.2.1.c1
      have b2 := HA.out.2.1.c2
      have b3 := HA.out.2.1.c3
      have b4 := HA.out.2.1.c4
      have b5 := HA.out.2.1.c5
      go_wp2_with (first | (go_at_call 95; refine (c1 _).mono ?_; rintro e w1 ⟨rfl, hb1⟩; have HB := hide (And.intro (HA.out.1.keep hb1) (And.intro (HA.out.2.1.keep hb1) (HA.out.2.2.trans (hb1.mono (Nat.le_of_lt HA.out.1.lt))))); clear HA hb1 a0 a1 a2 a3 a4 a5 b0 b1 b2 b3 b4 b5; have HA := HB; clear HB; have a0 := HA.out.1.c0; have a1 := HA.out.1.c1; have a2 := HA.out.1.c2; have a3 := HA.out.1.c3; have a4 := HA.out.1.c4; have a5 := HA.out.1.c5; have b0 := HA.out.2.1.c0; have b1 := HA.out.2.1.c1; have b2 := HA.out.2.1.c2; have b3 := HA.out.2.1.c3; have b4 := HA.out.2.1.c4; have b5 := HA.out.2.1.c5) | (go_at_call 96; refine (c2 _).mono ?_; rintro e w1 ⟨rfl, hb1⟩; have HB := hide (And.intro (HA.out.1.keep hb1) (And.intro (HA.out.2.1.keep hb1) (HA.out.2.2.trans (hb1.mono (Nat.le_of_lt HA.out.1.lt))))); clear HA hb1 a0 a1 a2 a3 a4 a5 b0 b1 b2 b3 b4 b5; have HA := HB; clear HB; have a0 := HA.out.1.c0; have a1 := HA.out.1.c1; have a2 := HA.out.1.c2; have a3 := HA.out.1.c3; have a4 := HA.out.1.c4; have a5 := HA.out.1.c5; have b0 := HA.out.2.1.c0; have b1 := HA.out.2.1.c1; have b2 := HA.out.2.1.c2; have b3 := HA.out.2.1.c3; have b4 := HA.out.2.1.c4; have b5 := HA.out.2.1.c5) | (go_at_call 97; refine (c3 _).mono ?_; rintro e w1 ⟨rfl, hb1⟩; have HB := hide (And.intro (HA.out.1.keep hb1) (And.intro (HA.out.2.1.keep hb1) (HA.out.2.2.trans (hb1.mono (Nat.le_of_lt HA.out.1.lt))))); clear HA hb1 a0 a1 a2 a3 a4 a5 b0 b1 b2 b3 b4 b5; have HA := HB; clear HB; have a0 := HA.out.1.c0; have a1 := HA.out.1.c1; have a2 := HA.out.1.c2; have a3 := HA.out.1.c3; have a4 := HA.out.1.c4; have a5 := HA.out.1.c5; have b0 := HA.out.2.1.c0; have b1 := HA.out.2.1.c1; have b2 := HA.out.2.1.c2; have b3 := HA.out.2.1.c3; have b4 := HA.out.2.1.c4; have b5 := HA.out.2.1.c5) | (go_at_call 98; refine (c4 _).mono ?_; rintro e w1 ⟨rfl, hb1⟩; have HB := hide (And.intro (HA.out.1.keep hb1) (And.intro (HA.out.2.1.keep hb1) (HA.out.2.2.trans (hb1.mono (Nat.le_of_lt HA.out.1.lt))))); clear HA hb1 a0 a1 a2 a3 a4 a5 b0 b1 b2 b3 b4 b5; have HA := HB; clear HB; have a0 := HA.out.1.c0; have a1 := HA.out.1.c1; have a2 := HA.out.1.c2; have a3 := HA.out.1.c3; have a4 := HA.out.1.c4; have a5 := HA.out.1.c5; have b0 := HA.out.2.1.c0; have b1 := HA.out.2.1.c1; have b2 := HA.out.2.1.c2; have b3 := HA.out.2.1.c3; have b4 := HA.out.2.1.c4; have b5 := HA.out.2.1.c5))
      clear c1 c2 c3 c4
      go_ret
      exact ⟨by rw [HR.out]; rfl, by rw [← HN.out]; exact HA.out.2.2⟩
    · cases t3
      · have x0 : Br ((w.alloc (.cells #[.int .i64 (up x.s), .bool x.k, .int .i64 x.n, .int .i64 x.lo, .int .i64 x.hi, .int .i64 (up x.p)] 53)).alloc (.cells #[.int .i64 (up y.s), .bool y.k, .int .i64 y.n, .int .i64 y.lo, .int .i64 y.hi, .int .i64 (up y.p)] 53)) (w.heap.size) (up x.s) x.k x.n x.lo x.hi (up x.p) := ((Br.new w (up x.s) x.k x.n x.lo x.hi (up x.p) 53)).keep ((Below.refl _ _).alloc (Nat.le_refl _) _)
        have x1 : Br ((w.alloc (.cells #[.int .i64 (up x.s), .bool x.k, .int .i64 x.n, .int .i64 x.lo, .int .i64 x.hi, .int .i64 (up x.p)] 53)).alloc (.cells #[.int .i64 (up y.s), .bool y.k, .int .i64 y.n, .int .i64 y.lo, .int .i64 y.hi, .int .i64 (up y.p)] 53)) (w.heap.size + 1) (up y.s) y.k y.n y.lo y.hi (up y.p) := (by simpa using Br.new (w.alloc (.cells #[.int .i64 (up x.s), .bool x.k, .int .i64 x.n, .int .i64 x.lo, .int .i64 x.hi, .int .i64 (up x.p)] 53)) (up y.s) y.k y.n y.lo y.hi (up y.p) 53 : Br ((w.alloc (.cells #[.int .i64 (up x.s), .bool x.k, .int .i64 x.n, .int .i64 x.lo, .int .i64 x.hi, .int .i64 (up x.p)] 53)).alloc (.cells #[.int .i64 (up y.s), .bool y.k, .int .i64 y.n, .int .i64 y.lo, .int .i64 y.hi, .int .i64 (up y.p)] 53)) (w.heap.size + 1) (up y.s) y.k y.n y.lo y.hi (up y.p))
        have xb : Below w.heap.size w ((w.alloc (.cells #[.int .i64 (up x.s), .bool x.k, .int .i64 x.n, .int .i64 x.lo, .int .i64 x.hi, .int .i64 (up x.p)] 53)).alloc (.cells #[.int .i64 (up y.s), .bool y.k, .int .i64 y.n, .int .i64 y.lo, .int .i64 y.hi, .int .i64 (up y.p)] 53)) := (by repeat (first | exact Below.refl _ _ | (refine Below.drew ?_) | (refine below_drewN ?_ _) | (refine Below.setCell ?_ (by first | omega | (simp; done) | (simp; omega)) _) | (refine Below.alloc ?_ (by first | omega | (simp; done) | (simp; omega)) _) | (refine Below.trans ?_ (Below.mono (by assumption) (by first | omega | (simp; done) | (simp; omega))))))
        go_enter Try.func48, Try.ntmps48
        go_upto_region 1 with fail
        go_name_world W hW
        rw [hW] at x0 x1 xb
        clear hW
        obtain ⟨N, hN⟩ : ∃ N, N = w.heap.size := ⟨_, rfl⟩
        rw [← hN] at x0 x1 xb ⊢
        have HN : Hid (N = w.heap.size) := hN
        clear hN
        have HA := hide (And.intro x0 (And.intro x1 xb))
        clear x0 x1 xb
        have a0 := HA.out.1.c0
        have a1 := HA.out.1.c1
        have a2 := HA.out.1.c2
        have a3 := HA.out.1.c3
        have a4 := HA.out.1.c4
        have a5 := HA.out.1.c5
        have b0 := HA.out.2.1.c0
        have b1 := HA.out.2.1.c1
        have b2 := HA.out.2.1.c2
        have b3 := HA.out.2.1.c3
        have b4 := HA.out.2.1.c4
        have b5 := HA.out.2.1.c5
        go_wp2_with (first | (go_at_call 95; refine (c1 _).mono ?_; rintro e w1 ⟨rfl, hb1⟩; have HB := hide (And.intro (HA.out.1.keep hb1) (And.intro (HA.out.2.1.keep hb1) (HA.out.2.2.trans (hb1.mono (Nat.le_of_lt HA.out.1.lt))))); clear HA hb1 a0 a1 a2 a3 a4 a5 b0 b1 b2 b3 b4 b5; have HA := HB; clear HB; have a0 := HA.out.1.c0; have a1 := HA.out.1.c1; have a2 := HA.out.1.c2; have a3 := HA.out.1.c3; have a4 := HA.out.1.c4; have a5 := HA.out.1.c5; have b0 := HA.out.2.1.c0; have b1 := HA.out.2.1.c1; have b2 := HA.out.2.1.c2; have b3 := HA.out.2.1.c3; have b4 := HA.out.2.1.c4; have b5 := HA.out.2.1.c5) | (go_at_call 96; refine (c2 _).mono ?_; rintro e w1 ⟨rfl, hb1⟩; have HB := hide (And.intro (HA.out.1.keep hb1) (And.intro (HA.out.2.1.keep hb1) (HA.out.2.2.trans (hb1.mono (Nat.le_of_lt HA.out.1.lt))))); clear HA hb1 a0 a1 a2 a3 a4 a5 b0 b1 b2 b3 b4 b5; have HA := HB; clear HB; have a0 := HA.out.1.c0; have a1 := HA.out.1.c1; have a2 := HA.out.1.c2; have a3 := HA.out.1.c3; have a4 := HA.out.1.c4; have a5 := HA.out.1.c5; have b0 := HA.out.2.1.c0; have b1 := HA.out.2.1.c1; have b2 := HA.out.2.1.c2; have b3 := HA.out.2.1.c3; have b4 := HA.out.2.1.c4; have b5 := HA.out.2.1.c5) | (go_at_call 97; refine (c3 _).mono ?_; rintro e w1 ⟨rfl, hb1⟩; have HB := hide (And.intro (HA.out.1.keep hb1) (And.intro (HA.out.2.1.keep hb1) (HA.out.2.2.trans (hb1.mono (Nat.le_of_lt HA.out.1.lt))))); clear HA hb1 a0 a1 a2 a3 a4 a5 b0 b1 b2 b3 b4 b5; have HA := HB; clear HB; have a0 := HA.out.1.c0; have a1 := HA.out.1.c1; have a2 := HA.out.1.c2; have a3 := HA.out.1.c3; have a4 := HA.out.1.c4; have a5 := HA.out.1.c5; have b0 := HA.out.2.1.c0; have b1 := HA.out.2.1.c1; have b2 := HA.out.2.1.c2; have b3 := HA.out.2.1.c3; have b4 := HA.out.2.1.c4; have b5 := HA.out.2.1.c5) | (go_at_call 98; refine (c4 _).mono ?_; rintro e w1 ⟨rfl, hb1⟩; have HB := hide (And.intro (HA.out.1.keep hb1) (And.intro (HA.out.2.1.keep hb1) (HA.out.2.2.trans (hb1.mono (Nat.le_of_lt HA.out.1.lt))))); clear HA hb1 a0 a1 a2 a3 a4 a5 b0 b1 b2 b3 b4 b5; have HA := HB; clear HB; have a0 := HA.out.1.c0; have a1 := HA.out.1.c1; have a2 := HA.out.1.c2; have a3 := HA.out.1.c3; have a4 := HA.out.1.c4; have a5 := HA.out.1.c5; have b0 := HA.out.2.1.c0; have b1 := HA.out.2.1.c1; have b2 := HA.out.2.1.c2; have b3 := HA.out.2.1.c3; have b4 := HA.out.2.1.c4; have b5 := HA.out.2.1.c5))
        clear c1 c2 c3 c4
        go_ret
        exact ⟨by rw [HR.out]; rfl, by rw [← HN.out]; exact HA.out.2.2⟩
      · have x0 : Br ((w.alloc (.cells #[.int .i64 (up x.s), .bool x.k, .int .i64 x.n, .int .i64 x.lo, .int .i64 x.hi, .int .i64 (up x.p)] 53)).alloc (.cells #[.int .i64 (up y.s), .bool y.k, .int .i64 y.n, .int .i64 y.lo, .int .i64 y.hi, .int .i64 (up y.p)] 53)) (w.heap.size) (up x.s) x.k x.n x.lo x.hi (up x.p) := ((Br.new w (up x.s) x.k x.n x.lo x.hi (up x.p) 53)).keep ((Below.refl _ _).alloc (Nat.le_refl _) _)
        have x1 : Br ((w.alloc (.cells #[.int .i64 (up x.s), .bool x.k, .int .i64 x.n, .int .i64 x.lo, .int .i64 x.hi, .int .i64 (up x.p)] 53)).alloc (.cells #[.int .i64 (up y.s), .bool y.k, .int .i64 y.n, .int .i64 y.lo, .int .i64 y.hi, .int .i64 (up y.p)] 53)) (w.heap.size + 1) (up y.s) y.k y.n y.lo y.hi (up y.p) := (by simpa using Br.new (w.alloc (.cells #[.int .i64 (up x.s), .bool x.k, .int .i64 x.n, .int .i64 x.lo, .int .i64 x.hi, .int .i64 (up x.p)] 53)) (up y.s) y.k y.n y.lo y.hi (up y.p) 53 : Br ((w.alloc (.cells #[.int .i64 (up x.s), .bool x.k, .int .i64 x.n, .int .i64 x.lo, .int .i64 x.hi, .int .i64 (up x.p)] 53)).alloc (.cells #[.int .i64 (up y.s), .bool y.k, .int .i64 y.n, .int .i64 y.lo, .int .i64 y.hi, .int .i64 (up y.p)] 53)) (w.heap.size + 1) (up y.s) y.k y.n y.lo y.hi (up y.p))
        have xb : Below w.heap.size w ((w.alloc (.cells #[.int .i64 (up x.s), .bool x.k, .int .i64 x.n, .int .i64 x.lo, .int .i64 x.hi, .int .i64 (up x.p)] 53)).alloc (.cells #[.int .i64 (up y.s), .bool y.k, .int .i64 y.n, .int .i64 y.lo, .int .i64 y.hi, .int .i64 (up y.p)] 53)) := (by repeat (first | exact Below.refl _ _ | (refine Below.drew ?_) | (refine below_drewN ?_ _) | (refine Below.setCell ?_ (by first | omega | (simp; done) | (simp; omega)) _) | (refine Below.alloc ?_ (by first | omega | (simp; done) | (simp; omega)) _) | (refine Below.trans ?_ (Below.mono (by assumption) (by first | omega | (simp; done) | (simp; omega))))))
        go_enter Try.func48, Try.ntmps48
        go_upto_region 1 with fail
        go_name_world W hW
        rw [hW] at x0 x1 xb
        clear hW
        obtain ⟨N, hN⟩ : ∃ N, N = w.heap.size := ⟨_, rfl⟩
        rw [← hN] at x0 x1 xb ⊢
        have HN : Hid (N = w.heap.size) := hN
        clear hN
        have HA := hide (And.intro x0 (And.intro x1 xb))
        clear x0 x1 xb
        have a0 := HA.out.1.c0
        have a1 := HA.out.1.c1
        have a2 := HA.out.1.c2
        have a3 := HA.out.1.c3
        have a4 := HA.out.1.c4
        have a5 := HA.out.1.c5
        have b0 := HA.out.2.1.c0
        have b1 := HA.out.2.1.c1
        have b2 := HA.out.2.1.c2
        have b3 := HA.out.2.1.c3
        have b4 := HA.out.2.1.c4
        have b5 := HA.out.2.1.c5
        go_wp2_with (first | (go_at_call 95; refine (c1 _).mono ?_; rintro e w1 ⟨rfl, hb1⟩; have HB := hide (And.intro (HA.out.1.keep hb1) (And.intro (HA.out.2.1.keep hb1) (HA.out.2.2.trans (hb1.mono (Nat.le_of_lt HA.out.1.lt))))); clear HA hb1 a0 a1 a2 a3 a4 a5 b0 b1 b2 b3 b4 b5; have HA := HB; clear HB; have a0 := HA.out.1.c0; have a1 := HA.out.1.c1; have a2 := HA.out.1.c2; have a3 := HA.out.1.c3; have a4 := HA.out.1.c4; have a5 := HA.out.1.c5; have b0 := HA.out.2.1.c0; have b1 := HA.out.2.1.c1; have b2 := HA.out.2.1.c2; have b3 := HA.out.2.1.c3; have b4 := HA.out.2.1.c4; have b5 := HA.out.2.1.c5) | (go_at_call 96; refine (c2 _).mono ?_; rintro e w1 ⟨rfl, hb1⟩; have HB := hide (And.intro (HA.out.1.keep hb1) (And.intro (HA.out.2.1.keep hb1) (HA.out.2.2.trans (hb1.mono (Nat.le_of_lt HA.out.1.lt))))); clear HA hb1 a0 a1 a2 a3 a4 a5 b0 b1 b2 b3 b4 b5; have HA := HB; clear HB; have a0 := HA.out.1.c0; have a1 := HA.out.1.c1; have a2 := HA.out.1.c2; have a3 := HA.out.1.c3; have a4 := HA.out.1.c4; have a5 := HA.out.1.c5; have b0 := HA.out.2.1.c0; have b1 := HA.out.2.1.c1; have b2 := HA.out.2.1.c2; have b3 := HA.out.2.1.c3; have b4 := HA.out.2.1.c4; have b5 := HA.out.2.1.c5) | (go_at_call 97; refine (c3 _).mono ?_; rintro e w1 ⟨rfl, hb1⟩; have HB := hide (And.intro (HA.out.1.keep hb1) (And.intro (HA.out.2.1.keep hb1) (HA.out.2.2.trans (hb1.mono (Nat.le_of_lt HA.out.1.lt))))); clear HA hb1 a0 a1 a2 a3 a4 a5 b0 b1 b2 b3 b4 b5; have HA := HB; clear HB; have a0 := HA.out.1.c0; have a1 := HA.out.1.c1; have a2 := HA.out.1.c2; have a3 := HA.out.1.c3; have a4 := HA.out.1.c4; have a5 := HA.out.1.c5; have b0 := HA.out.2.1.c0; have b1 := HA.out.2.1.c1; have b2 := HA.out.2.1.c2; have b3 := HA.out.2.1.c3; have b4 := HA.out.2.1.c4; have b5 := HA.out.2.1.c5) | (go_at_call 98; refine (c4 _).mono ?_; rintro e w1 ⟨rfl, hb1⟩; have HB := hide (And.intro (HA.out.1.keep hb1) (And.intro (HA.out.2.1.keep hb1) (HA.out.2.2.trans (hb1.mono (Nat.le_of_lt HA.out.1.lt))))); clear HA hb1 a0 a1 a2 a3 a4 a5 b0 b1 b2 b3 b4 b5; have HA := HB; clear HB; have a0 := HA.out.1.c0; have a1 := HA.out.1.c1; have a2 := HA.out.1.c2; have a3 := HA.out.1.c3; have a4 := HA.out.1.c4; have a5 := HA.out.1.c5; have b0 := HA.out.2.1.c0; have b1 := HA.out.2.1.c1; have b2 := HA.out.2.1.c2; have b3 := HA.out.2.1.c3; have b4 := HA.out.2.1.c4; have b5 := HA.out.2.1.c5))
        clear c1 c2 c3 c4
        go_ret
        exact ⟨by rw [HR.out]; rfl, by rw [← HN.out]; exact HA.out.2.2⟩
end Go.Proofs.Ytmhicllhjiglkaa
namespace Go.Proofs.Ytmhicllhjiglkaa
open Go.RowKit
/-- a Known, a Span at a block -/
def K2 (w : World) (q : Nat) (k : Bool) (n : Int) : Prop := w.cell? ⟨q, 0, none⟩ = some (.bool k) ∧ w.cell? ⟨q, 1, none⟩ = some (.int .i64 n)
def S2 (w : World) (q : Nat) (lo hi : Int) : Prop := w.cell? ⟨q, 0, none⟩ = some (.int .i64 lo) ∧ w.cell? ⟨q, 1, none⟩ = some (.int .i64 hi)
theorem K2.lt {w : World} {q : Nat} {k : Bool} {n : Int} (h : K2 w q k n) : q < w.heap.size := World.block_lt_of_cell? w _ h.1
theorem S2.lt {w : World} {q : Nat} {k : Int} {n : Int} (h : S2 w q k n) : q < w.heap.size := World.block_lt_of_cell? w _ h.1
theorem K2.keep {w w' : World} {q : Nat} {k : Bool} {n : Int} (h : K2 w q k n) (hb : Below w.heap.size w w') : K2 w' q k n := ⟨((bcell hb).1 q 0 h.lt).trans h.1, ((bcell hb).1 q 1 h.lt).trans h.2⟩
theorem S2.keep {w w' : World} {q : Nat} {k : Int} {n : Int} (h : S2 w q k n) (hb : Below w.heap.size w w') : S2 w' q k n := ⟨((bcell hb).1 q 0 h.lt).trans h.1, ((bcell hb).1 q 1 h.lt).trans h.2⟩
theorem K2.new (w : World) (k : Bool) (n : Int) (t : TypeId) : K2 (w.alloc (.cells #[.bool k, .int .i64 n] t)) w.heap.size k n := ⟨by simp, by simp⟩
theorem S2.new (w : World) (k : Int) (n : Int) (t : TypeId) : S2 (w.alloc (.cells #[.int .i64 k, .int .i64 n] t)) w.heap.size k n := ⟨by simp, by simp⟩
theorem K2.put {w : World} {q r : Nat} {k : Bool} {n : Int} (h : K2 w r k n) (hq : r ≠ q) (a b c d e f : Value) : K2 (st6 w q a b c d e f) r k n := ⟨(st6_cell w q r 0 a b c d e f hq).trans h.1, (st6_cell w q r 1 a b c d e f hq).trans h.2⟩
theorem S2.put {w : World} {q r : Nat} {k : Int} {n : Int} (h : S2 w r k n) (hq : r ≠ q) (a b c d e f : Value) : S2 (st6 w q a b c d e f) r k n := ⟨(st6_cell w q r 0 a b c d e f hq).trans h.1, (st6_cell w q r 1 a b c d e f hq).trans h.2⟩
def brT (a : Int × Int) : (Int × Int) × Bool :=
  if a.1 = 0 ∧ a.2 = 0 then ((0, 0), false)
  else if a.1 = 0 then ((1, a.2), true)
  else if a.2 = 0 then ((a.1, -1), true)
  else (a, true)
def brF (a : Int × Int) : (Int × Int) × Bool := if a.1 ≤ 0 ∧ 0 ≤ a.2 then ((0, 0), true) else ((0, 0), false)
def branchP (a : Int × Int) (yes : Bool) : (Int × Int) × Bool := if yes then brT a else brF a
set_option maxHeartbeats 4000000 in
theorem branch_no (al ah : Int) (w : World) : Calls Try.prog 110 #[.agg #[.int .i64 al, .int .i64 ah], .bool false] w fun e w' => e = .returned (.tuple #[.agg #[.int .i64 ((brF (al, ah)).1).1, .int .i64 ((brF (al, ah)).1).2], .bool (brF (al, ah)).2]) ∧ Below w.heap.size w w' := by
  have e : meetP (al, ah) (0, 0) = brF (al, ah) := by
    unfold meetP brF
    dsimp only
    by_cases h : al ≤ 0 ∧ 0 ≤ ah
    · rw [if_pos (by omega), if_pos h]
      simp only [Prod.mk.injEq, and_true]
      omega
    · rw [if_neg (by omega), if_neg h]
  rw [← e]
  have hme : ∀ w : World, Calls Try.prog 136 #[.agg #[.int .i64 al, .int .i64 ah], .agg #[.int .i64 0, .int .i64 0]] w fun e w' => e = .returned (.tuple #[.agg #[.int .i64 ((meetP (al, ah) (0, 0)).1).1, .int .i64 ((meetP (al, ah) (0, 0)).1).2], .bool (meetP (al, ah) (0, 0)).2]) ∧ New5 w w' := fun w => nmeet_any (al, ah) (0, 0) w
  clear e
  generalize meetP (al, ah) (0, 0) = r at *
  go_enter Try.func110, Try.ntmps110
  go_wp2_with fail
  go_region_with (first | (go_at_call 83; refine (nof_any _ _).mono ?_; rintro e w1 ⟨rfl, o1, rfl⟩) | (go_at_call 136; refine (hme _).mono ?_; rintro e w1 ⟨rfl, o1, o2, o3, o4, o5, rfl⟩))
  all_goals go_wp2
  all_goals (refine bodyPost_ret (by simp [results, Try.results110, go_sem]; try rfl) rfl ⟨?_, (by repeat (first | exact Below.refl _ _ | (refine Below.drew ?_) | (refine below_drewN ?_ _) | (refine Below.setCell ?_ (by first | omega | (simp; done) | (simp; omega)) _) | (refine Below.alloc ?_ (by first | omega | (simp; done) | (simp; omega)) _) | (refine Below.trans ?_ (Below.mono (by assumption) (by first | omega | (simp; done) | (simp; omega))))))⟩; rfl)
set_option maxHeartbeats 4000000 in
theorem branch_yes (al ah : Int) (w : World) : Calls Try.prog 110 #[.agg #[.int .i64 al, .int .i64 ah], .bool true] w fun e w' => e = .returned (.tuple #[.agg #[.int .i64 ((brT (al, ah)).1).1, .int .i64 ((brT (al, ah)).1).2], .bool (brT (al, ah)).2]) ∧ Below w.heap.size w w' := by
  by_cases h1 : al = 0
  · subst h1
    by_cases h2 : ah = 0
    · subst h2
      go_enter Try.func110, Try.ntmps110
      go_wp2_with fail
      go_region_with ((go_at_call 83; refine (nof_any _ _).mono ?_; rintro e w1 ⟨rfl, o1, rfl⟩))
      all_goals go_wp2
      all_goals (refine bodyPost_ret (by simp [results, Try.results110, go_sem]; try rfl) rfl ⟨?_, (by repeat (first | exact Below.refl _ _ | (refine Below.drew ?_) | (refine below_drewN ?_ _) | (refine Below.setCell ?_ (by first | omega | (simp; done) | (simp; omega)) _) | (refine Below.alloc ?_ (by first | omega | (simp; done) | (simp; omega)) _) | (refine Below.trans ?_ (Below.mono (by assumption) (by first | omega | (simp; done) | (simp; omega))))))⟩; exact ret_sb (by unfold brT; repeat' (first | rfl | omega | (dsimp only; omega) | split | (exfalso; omega))) (by unfold brT; repeat' (first | rfl | omega | (dsimp only; omega) | split | (exfalso; omega))) (by unfold brT; repeat' (first | rfl | omega | (dsimp only; omega) | split | (exfalso; omega))))
    · go_enter Try.func110, Try.ntmps110
      go_wp2_with fail
      go_region_with ((go_at_call 83; refine (nof_any _ _).mono ?_; rintro e w1 ⟨rfl, o1, rfl⟩))
      all_goals go_wp2
      all_goals (refine bodyPost_ret (by simp [results, Try.results110, go_sem]; try rfl) rfl ⟨?_, (by repeat (first | exact Below.refl _ _ | (refine Below.drew ?_) | (refine below_drewN ?_ _) | (refine Below.setCell ?_ (by first | omega | (simp; done) | (simp; omega)) _) | (refine Below.alloc ?_ (by first | omega | (simp; done) | (simp; omega)) _) | (refine Below.trans ?_ (Below.mono (by assumption) (by first | omega | (simp; done) | (simp; omega))))))⟩; exact ret_sb (by unfold brT; repeat' (first | rfl | omega | (dsimp only; omega) | split | (exfalso; omega))) (by unfold brT; repeat' (first | rfl | omega | (dsimp only; omega) | split | (exfalso; omega))) (by unfold brT; repeat' (first | rfl | omega | (dsimp only; omega) | split | (exfalso; omega))))
  · by_cases h2 : ah = 0
    · subst h2
      go_enter Try.func110, Try.ntmps110
      go_wp2_with fail
      go_region_with ((go_at_call 83; refine (nof_any _ _).mono ?_; rintro e w1 ⟨rfl, o1, rfl⟩))
      all_goals go_wp2
      all_goals (refine bodyPost_ret (by simp [results, Try.results110, go_sem]; try rfl) rfl ⟨?_, (by repeat (first | exact Below.refl _ _ | (refine Below.drew ?_) | (refine below_drewN ?_ _) | (refine Below.setCell ?_ (by first | omega | (simp; done) | (simp; omega)) _) | (refine Below.alloc ?_ (by first | omega | (simp; done) | (simp; omega)) _) | (refine Below.trans ?_ (Below.mono (by assumption) (by first | omega | (simp; done) | (simp; omega))))))⟩; exact ret_sb (by unfold brT; repeat' (first | rfl | omega | (dsimp only; omega) | split | (exfalso; omega))) (by unfold brT; repeat' (first | rfl | omega | (dsimp only; omega) | split | (exfalso; omega))) (by unfold brT; repeat' (first | rfl | omega | (dsimp only; omega) | split | (exfalso; omega))))
    · go_enter Try.func110, Try.ntmps110
      go_wp2_with fail
      go_region_with ((go_at_call 83; refine (nof_any _ _).mono ?_; rintro e w1 ⟨rfl, o1, rfl⟩))
      all_goals go_wp2
      all_goals (refine bodyPost_ret (by simp [results, Try.results110, go_sem]; try rfl) rfl ⟨?_, (by repeat (first | exact Below.refl _ _ | (refine Below.drew ?_) | (refine below_drewN ?_ _) | (refine Below.setCell ?_ (by first | omega | (simp; done) | (simp; omega)) _) | (refine Below.alloc ?_ (by first | omega | (simp; done) | (simp; omega)) _) | (refine Below.trans ?_ (Below.mono (by assumption) (by first | omega | (simp; done) | (simp; omega))))))⟩; exact ret_sb (by unfold brT; repeat' (first | rfl | omega | (dsimp only; omega) | split | (exfalso; omega))) (by unfold brT; repeat' (first | rfl | omega | (dsimp only; omega) | split | (exfalso; omega))) (by unfold brT; repeat' (first | rfl | omega | (dsimp only; omega) | split | (exfalso; omega))))
theorem branch_any (a : Int × Int) (yes : Bool) (w : World) : Calls Try.prog 110 #[.agg #[.int .i64 a.1, .int .i64 a.2], .bool yes] w fun e w' => e = .returned (.tuple #[.agg #[.int .i64 ((branchP a yes).1).1, .int .i64 ((branchP a yes).1).2], .bool (branchP a yes).2]) ∧ Below w.heap.size w w' := by
  cases yes
  · exact branch_no a.1 a.2 w
  · exact branch_yes a.1 a.2 w
def brOk (ai : Bool) (an : Int) (yes : Bool) : Bool := if yes = true then !(ai && (an == 0)) else !(ai && (an != 0))
def brI (ai : Bool) (an : Int) (yes : Bool) : Bool := if yes = true then ai && (an != 0) else !(ai && (an != 0))
def brN (ai : Bool) (an : Int) (yes : Bool) : Int := if yes = true then (if ai = true then an else 0) else 0
theorem kis_any (ai : Bool) (an n : Int) (w : World) : Calls Try.prog 134 #[.agg #[.bool ai, .int .i64 an], .int .i64 n] w fun e w' => e = .returned (.bool (ai && (an == n))) ∧ New1 w w' := by
  cases ai <;> by_cases h : an = n <;> (try subst h) <;>
  · go_enter Try.func134, Try.ntmps134
    go_wp2
    go_ret
    exact ⟨by simp [*], _, rfl⟩
set_option maxHeartbeats 2000000 in
theorem kbr_any (ai : Bool) (an : Int) (yes : Bool) (w : World) : Calls Try.prog 109 #[.agg #[.bool ai, .int .i64 an], .bool yes] w fun e w' => e = .returned (.tuple #[.agg #[.bool (brI ai an yes), .int .i64 (brN ai an yes)], .bool (brOk ai an yes)]) ∧ Below w.heap.size w w' := by
  cases yes
  · have e1 : meetI ai an true 0 = brI ai an false := by cases ai <;> by_cases h : an = 0 <;> simp [meetI, brI, h, bne]
    have e2 : meetN ai an true 0 = brN ai an false := by cases ai <;> by_cases h : an = 0 <;> simp [meetN, brN, h]
    have e3 : meetOk ai an true 0 = brOk ai an false := by cases ai <;> by_cases h : an = 0 <;> simp [meetOk, brOk, h]
    go_enter Try.func109, Try.ntmps109
    go_wp2
    go_region_with (first | (go_at_call 133; refine (kmeet_any _ _ _ _ _).mono ?_; rintro e w' ⟨rfl, hb⟩; obtain ⟨hc, hf⟩ := bcell hb; have hz := hb.size; simp at hz) | (go_at_call 82; refine (kof_any _ _).mono ?_; rintro e w' ⟨rfl, o, rfl⟩))
    all_goals (go_wp2; exact bodyPost_ret (by simp [results, Try.results109, go_sem, *]; try rfl) rfl ⟨rfl, (by repeat (first | exact Below.refl _ _ | (refine Below.drew ?_) | (refine Below.setCell ?_ (by first | omega | (simp; done) | (simp; omega)) _) | (refine Below.alloc ?_ (by first | omega | (simp; done) | (simp; omega)) _) | (refine Below.trans ?_ (Below.mono (by assumption) (by first | omega | (simp; done) | (simp; omega))))))⟩)
  · cases ai <;> by_cases h : an = 0 <;> (try subst h) <;>
    · go_enter Try.func109, Try.ntmps109
      go_wp2_with (first | (go_at_call 135; refine (krt_any _ _ _).mono ?_; rintro e w' ⟨rfl, hb⟩; obtain ⟨hc, hf⟩ := bcell hb; have hz := hb.size; simp at hz) | (go_at_call 79; refine (kany_any _).mono ?_; rintro e w' ⟨rfl, o, rfl⟩) | (go_at_call 134; refine (kis_any _ _ _ _).mono ?_; rintro e w' ⟨rfl, o, rfl⟩))
      all_goals (exact bodyPost_ret (by simp [results, Try.results109, go_sem, *]; try rfl) rfl ⟨by simp [brI, brN, brOk, cleanN, *], (by repeat (first | exact Below.refl _ _ | (refine Below.drew ?_) | (refine Below.setCell ?_ (by first | omega | (simp; done) | (simp; omega)) _) | (refine Below.alloc ?_ (by first | omega | (simp; done) | (simp; omega)) _) | (refine Below.trans ?_ (Below.mono (by assumption) (by first | omega | (simp; done) | (simp; omega))))))⟩)
def branchS (x : BitVec 3) (yes : Bool) : BitVec 3 := if yes then x &&& 5 else x &&& 2
theorem sbranch_any (a : Int) (yes : Bool) (w : World) : Calls Try.prog 111 #[.int .i64 a, .bool yes] w fun e w' => e = .returned (.int .i64 (up (branchS (low a) yes))) ∧ w' = w := by
  cases yes <;>
  · go_enter Try.func111, Try.ntmps111
    go_wp2
    go_ret
    exact ⟨ret_int (by rw [and_up _ _ (by omega) (by omega)]; rfl), rfl⟩
def branchQ (x : BitVec 3) (yes : Bool) : BitVec 3 := if yes then x &&& 3 else x &&& 1
theorem pbranch_any (a : Int) (yes : Bool) (w : World) : Calls Try.prog 112 #[.int .i64 a, .bool yes] w fun e w' => e = .returned (.int .i64 (up (branchQ (low a) yes))) ∧ w' = w := by
  cases yes <;>
  · go_enter Try.func112, Try.ntmps112
    go_wp2
    go_ret
    exact ⟨ret_int (by rw [and_up _ _ (by omega) (by omega)]; rfl), rfl⟩
def branchV (x : V) (yes : Bool) : V × Bool := someV ⟨branchS x.s yes, brI x.k x.n yes, brN x.k x.n yes, (branchP (x.lo, x.hi) yes).1.1, (branchP (x.lo, x.hi) yes).1.2, branchQ x.p yes⟩ (brOk x.k x.n yes && (branchP (x.lo, x.hi) yes).2)
end Go.Proofs.Ytmhicllhjiglkaa
