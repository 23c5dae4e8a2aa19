import Derived.Test.YtpegiljajlljkaaSe
namespace Go.Proofs.Ytpegiljajlljkaa
open Go.RowKit
theorem ret_ib2 {n n' : Int} {b b' : Bool} (h1 : n = n') (h : b = b') : Ending.returned (.tuple #[.int .i64 n, .bool b]) = Ending.returned (.tuple #[.int .i64 n', .bool b']) := by rw [h1, h]
theorem add_any (x y : Int) (w : World) (hx : i64 x) (hy : i64 y) : Calls Try.prog 45 #[.int .i64 x, .int .i64 y] w fun e w' => e = .returned (.tuple #[.int .i64 (wrap64 (x + y)), .bool (fit (x + y))]) ∧ w' = w := by
  by_cases h1 : 0 ≤ x
  · by_cases h2 : 0 ≤ y
    · have HF : Hid (decide (0 ≤ wrap64 (x + y)) = fit (x + y)) := by
        unfold Hid
        rw [Bool.eq_iff_iff, fit_iff, decide_eq_true_iff]
        unfold i64 at hx hy
        unfold wrap64
        omega
      go_enter Try.func45, Try.ntmps45
      go_wp2
      go_ret2
      exact ⟨ret_ib HF.out, rfl⟩
    · have HF : Hid (true = fit (x + y)) := by
        unfold Hid
        symm
        rw [fit_iff]
        unfold i64 at hx hy
        omega
      go_enter Try.func45, Try.ntmps45
      go_wp2
      go_ret2
      exact ⟨ret_ib HF.out, rfl⟩
  · by_cases h2 : 0 ≤ y
    · have HF : Hid (true = fit (x + y)) := by
        unfold Hid
        symm
        rw [fit_iff]
        unfold i64 at hx hy
        omega
      go_enter Try.func45, Try.ntmps45
      go_wp2
      go_ret2
      exact ⟨ret_ib HF.out, rfl⟩
    · have HF : Hid ((!decide (0 ≤ wrap64 (x + y))) = fit (x + y)) := by
        unfold Hid
        rw [Bool.eq_iff_iff, fit_iff, Bool.not_eq_true', decide_eq_false_iff_not]
        unfold i64 at hx hy
        unfold wrap64
        omega
      go_enter Try.func45, Try.ntmps45
      go_wp2
      go_ret2
      exact ⟨ret_ib HF.out, rfl⟩
theorem sub_any (x y : Int) (w : World) (hx : i64 x) (hy : i64 y) : Calls Try.prog 47 #[.int .i64 x, .int .i64 y] w fun e w' => e = .returned (.tuple #[.int .i64 (wrap64 (x - y)), .bool (fit (x - y))]) ∧ w' = w := by
  by_cases h1 : 0 ≤ x
  · by_cases h2 : 0 ≤ y
    · have HF : Hid (true = fit (x - y)) := by
        unfold Hid
        symm
        rw [fit_iff]
        unfold i64 at hx hy
        omega
      go_enter Try.func47, Try.ntmps47
      go_wp2
      go_ret2
      exact ⟨ret_ib HF.out, rfl⟩
    · have HF : Hid (decide (0 ≤ wrap64 (x - y)) = fit (x - y)) := by
        unfold Hid
        rw [Bool.eq_iff_iff, fit_iff, decide_eq_true_iff]
        unfold i64 at hx hy
        unfold wrap64
        omega
      go_enter Try.func47, Try.ntmps47
      go_wp2
      go_ret2
      exact ⟨ret_ib HF.out, rfl⟩
  · by_cases h2 : 0 ≤ y
    · have HF : Hid ((!decide (0 ≤ wrap64 (x - y))) = fit (x - y)) := by
        unfold Hid
        rw [Bool.eq_iff_iff, fit_iff, Bool.not_eq_true', decide_eq_false_iff_not]
        unfold i64 at hx hy
        unfold wrap64
        omega
      go_enter Try.func47, Try.ntmps47
      go_wp2
      go_ret2
      exact ⟨ret_ib HF.out, rfl⟩
    · have HF : Hid (true = fit (x - y)) := by
        unfold Hid
        symm
        rw [fit_iff]
        unfold i64 at hx hy
        omega
      go_enter Try.func47, Try.ntmps47
      go_wp2
      go_ret2
      exact ⟨ret_ib HF.out, rfl⟩
theorem times_any (x y : Int) (w : World) (hx : i64 x) (hy : i64 y) : Calls Try.prog 48 #[.int .i64 x, .int .i64 y] w fun e w' => e = .returned (.tuple #[.int .i64 (wrap64 (x * y)), .bool (fit (x * y))]) ∧ ∃ j, w' = w.drewN j := by
  by_cases h0 : x = 0
  · subst h0
    go_enter Try.func48, Try.ntmps48
    go_wp2
    go_ret2
    exact ⟨by simp [fit, wrap64], 0, rfl⟩
  have x0 : (x == 0) = false := by rw [beq_eq_false_iff_ne]; exact h0
  by_cases h0' : y = 0
  · subst h0'
    go_enter Try.func48, Try.ntmps48
    go_wp2
    go_ret2
    exact ⟨by simp [fit, wrap64], 0, rfl⟩
  have y0 : (y == 0) = false := by rw [beq_eq_false_iff_ne]; exact h0'
  by_cases h1 : x = -1
  · subst h1
    have HF : Hid ((y != -9223372036854775808) = fit (-1 * y)) := by
      unfold Hid
      unfold i64 at hy
      rw [Bool.eq_iff_iff, fit_iff, bne_iff_ne]
      omega
    clear hx hy h0 h0'
    go_enter Try.func48, Try.ntmps48
    go_wp2
    go_ret2
    exact ⟨ret_ib2 (by rw [Int.neg_mul, Int.one_mul]) HF.out, 0, rfl⟩
  have x1 : (x == -1) = false := by rw [beq_eq_false_iff_ne]; exact h1
  by_cases h1' : y = -1
  · subst h1'
    by_cases hL : x = -9223372036854775808
    · subst hL
      go_enter Try.func48, Try.ntmps48
      go_wp2
      go_ret2
      exact ⟨by simp [fit], 0, rfl⟩
    · have HF : Hid (true = fit (x * -1)) := by
        unfold Hid
        unfold i64 at hx
        symm
        rw [fit_iff]
        omega
      have xL : (x != -9223372036854775808) = true := by rw [bne_iff_ne]; exact hL
      clear hx hy h0 h0' hL h1
      go_enter Try.func48, Try.ntmps48
      go_wp2
      go_ret2
      exact ⟨ret_ib2 (by rw [Int.mul_neg, Int.mul_one]) HF.out, 0, rfl⟩
  · have y1 : (y == -1) = false := by rw [beq_eq_false_iff_ne]; exact h1'
    have hf := prod_fit x y hy h0'
    have hw := wrap_bd (x * y)
    have hq := tdiv_fit (wrap64 (x * y)) y hw h0' (by omega)
    have HF : Hid ((wrap64 ((wrap64 (x * y)).tdiv y) == x) = fit (x * y)) := by unfold Hid; rw [Bool.eq_iff_iff, beq_iff_eq, wrap_fit _ hq.1 hq.2]; exact hf
    clear hf hw hq hx hy h0 h1 h1'
    go_enter Try.func48, Try.ntmps48
    go_wp2
    go_quiet (fail)
    go_wp2
    go_ret2
    exact ⟨by rw [← HF.out]; simp, _, rfl⟩
theorem farr_any (b : Int × Int) (w : World) (hb : Sp b) : Calls Try.prog 61 #[.agg #[.int .i64 b.1, .int .i64 b.2]] w fun e w' => e = .returned (.int .i64 (farP b)) ∧ New1 w w' := by
  unfold Sp at hb
  obtain ⟨b1, b2, b3⟩ := hb
  by_cases h1 : b.1 < 0 <;> by_cases h2 : 0 < b.2 <;>
  · go_enter Try.func61, Try.ntmps61
    go_wp2
    all_goals (go_ret; refine ⟨?_, _, rfl⟩; exact ret_i (by unfold farP; omega))
theorem oner_any (op : Int) (a : Int × Int) (w : World) (ha : Sp a) : Calls Try.prog 28 #[.int .i64 op, .agg #[.int .i64 a.1, .int .i64 a.2]] w fun e w' => e = .returned (.tuple #[.agg #[.int .i64 ((oneP op a).1).1, .int .i64 ((oneP op a).1).2], .bool (oneP op a).2]) ∧ Below w.heap.size w w' := by
  unfold Sp at ha
  obtain ⟨a1, a2, a3⟩ := ha
  by_cases q2 : op = 2
  · subst q2
    go_enter Try.func28, Try.ntmps28
    go_wp2_with (go_at_call 18; refine (anyr_any _).mono ?_; rintro e w1 ⟨rfl, o1, rfl⟩)
    all_goals (refine bodyPost_ret (by simp [results, Try.results28, go_sem]; try rfl) rfl ⟨?_, (by repeat (first | exact Below.refl _ _ | (refine Below.drew ?_) | (refine below_drewN ?_ _) | (refine Below.setCell ?_ (by first | omega | (simp; done) | (simp; omega)) _) | (refine Below.alloc ?_ (by first | omega | (simp; done) | (simp; omega)) _) | (refine Below.trans ?_ (Below.mono (by assumption) (by first | omega | (simp; done) | (simp; omega))))))⟩; exact ret_sb (by unfold oneP; repeat' (first | rfl | omega | (dsimp only; omega) | split | (exfalso; omega))) (by unfold oneP; repeat' (first | rfl | omega | (dsimp only; omega) | split | (exfalso; omega))) (by unfold oneP; repeat' (first | rfl | omega | (dsimp only; omega) | split | (exfalso; omega))))
  by_cases q3 : op = 3
  · subst q3
    by_cases h1 : a.1 = -9223372036854775808
    · by_cases h2 : a.2 = -9223372036854775808
      · have HE : Hid (oneP 3 a = (a, true)) := by unfold Hid oneP; rw [if_neg (by omega), if_pos rfl, if_neg (by omega), if_pos h2]
        have HA : Hid (a = (-9223372036854775808, -9223372036854775808)) := Prod.ext h1 h2
        go_enter Try.func28, Try.ntmps28
        go_wp2_with (go_at_call 18; refine (anyr_any _).mono ?_; rintro e w1 ⟨rfl, o1, rfl⟩)
        all_goals (refine bodyPost_ret (by simp [results, Try.results28, go_sem]; try rfl) rfl ⟨?_, (by repeat (first | exact Below.refl _ _ | (refine Below.drew ?_) | (refine below_drewN ?_ _) | (refine Below.setCell ?_ (by first | omega | (simp; done) | (simp; omega)) _) | (refine Below.alloc ?_ (by first | omega | (simp; done) | (simp; omega)) _) | (refine Below.trans ?_ (Below.mono (by assumption) (by first | omega | (simp; done) | (simp; omega))))))⟩; rw [HE.out, HA.out])
      · have HE : Hid (oneP 3 a = ((-9223372036854775808, 9223372036854775807), true)) := by unfold Hid oneP; rw [if_neg (by omega), if_pos rfl, if_neg (by omega), if_neg h2]; rfl
        go_enter Try.func28, Try.ntmps28
        go_wp2_with (go_at_call 18; refine (anyr_any _).mono ?_; rintro e w1 ⟨rfl, o1, rfl⟩)
        all_goals (refine bodyPost_ret (by simp [results, Try.results28, go_sem]; try rfl) rfl ⟨?_, (by repeat (first | exact Below.refl _ _ | (refine Below.drew ?_) | (refine below_drewN ?_ _) | (refine Below.setCell ?_ (by first | omega | (simp; done) | (simp; omega)) _) | (refine Below.alloc ?_ (by first | omega | (simp; done) | (simp; omega)) _) | (refine Below.trans ?_ (Below.mono (by assumption) (by first | omega | (simp; done) | (simp; omega))))))⟩; rw [HE.out])
    · have HE : Hid (oneP 3 a = ((-a.2, -a.1), true)) := by unfold Hid oneP; rw [if_neg (by omega), if_pos rfl, if_pos h1]
      have h3 : -9223372036854775808 < a.1 := by omega
      go_enter Try.func28, Try.ntmps28
      go_wp2_with (go_at_call 18; refine (anyr_any _).mono ?_; rintro e w1 ⟨rfl, o1, rfl⟩)
      all_goals (refine bodyPost_ret (by simp [results, Try.results28, go_sem]; try rfl) rfl ⟨?_, (by repeat (first | exact Below.refl _ _ | (refine Below.drew ?_) | (refine below_drewN ?_ _) | (refine Below.setCell ?_ (by first | omega | (simp; done) | (simp; omega)) _) | (refine Below.alloc ?_ (by first | omega | (simp; done) | (simp; omega)) _) | (refine Below.trans ?_ (Below.mono (by assumption) (by first | omega | (simp; done) | (simp; omega))))))⟩; rw [HE.out])
  · have e : oneP op a = ((0, 0), false) := by unfold oneP; rw [if_neg q2, if_neg q3]
    rw [e]
    go_enter Try.func28, Try.ntmps28
    go_wp2
    all_goals (refine bodyPost_ret (by simp [results, Try.results28, go_sem]; try rfl) rfl ⟨?_, (by repeat (first | exact Below.refl _ _ | (refine Below.drew ?_) | (refine below_drewN ?_ _) | (refine Below.setCell ?_ (by first | omega | (simp; done) | (simp; omega)) _) | (refine Below.alloc ?_ (by first | omega | (simp; done) | (simp; omega)) _) | (refine Below.trans ?_ (Below.mono (by assumption) (by first | omega | (simp; done) | (simp; omega))))))⟩; rfl)
end Go.Proofs.Ytpegiljajlljkaa
