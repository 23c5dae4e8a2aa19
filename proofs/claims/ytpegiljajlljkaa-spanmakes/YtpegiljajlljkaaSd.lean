import Derived.Test.YtpegiljajlljkaaSc
import Derived.Test.YtpegiljajlljkaaSN
import Derived.Deep.QuietTactic
import Derived.BigQuiet
namespace Go.Proofs.Ytpegiljajlljkaa
open Go.RowKit
def New4 (w w' : World) : Prop := ∃ o p q r, w' = (((w.alloc o).alloc p).alloc q).alloc r
theorem sum_fit (x y : Int) (hx : i64 x) (hy : i64 y) : (decide (wrap64 (x + y) < x) == decide (y < 0)) = fit (x + y) := by
  unfold i64 at *
  unfold wrap64 fit
  rw [Bool.eq_iff_iff]
  simp only [beq_iff_eq, Bool.and_eq_true, decide_eq_true_iff, decide_eq_decide]
  omega
theorem diff_fit (x y : Int) (hx : i64 x) (hy : i64 y) : (decide (x < wrap64 (x - y)) == decide (y < 0)) = fit (x - y) := by
  unfold i64 at *
  unfold wrap64 fit
  rw [Bool.eq_iff_iff]
  simp only [beq_iff_eq, Bool.and_eq_true, decide_eq_true_iff, decide_eq_decide]
  omega
theorem prod_fit (x y : Int) (hy : i64 y) (h0 : y ≠ 0) : (wrap64 (x * y)).tdiv y = x ↔ fit (x * y) = true := by
  rw [fit_iff]
  constructor
  · intro h
    have e := Int.mul_tdiv_add_tmod (wrap64 (x * y)) y
    rw [h, Int.mul_comm y x] at e
    have e2 := (tmod_bd (wrap64 (x * y)) y h0).2.2
    generalize (wrap64 (x * y)).tmod y = t at *
    generalize x * y = p at *
    unfold i64 at hy
    unfold wrap64 at e
    omega
  · intro h
    rw [wrap_fit _ h.1 h.2]
    exact Int.mul_tdiv_cancel x h0
theorem wrapK (n : Int) : IntKind.i64.wrap n = wrap64 n := by rw [IntKind.wrap_i64]; unfold wrap64; omega
theorem ret_ib {n : Int} {b b' : Bool} (h : b = b') : Ending.returned (.tuple #[.int .i64 n, .bool b]) = Ending.returned (.tuple #[.int .i64 n, .bool b']) := by rw [h]
theorem sum_any (x y : Int) (w : World) (hx : i64 x) (hy : i64 y) : Calls Try.prog 53 #[.int .i64 x, .int .i64 y] w fun e w' => e = .returned (.tuple #[.int .i64 (wrap64 (x + y)), .bool (fit (x + y))]) ∧ w' = w := by
  have hf := sum_fit x y hx hy
  go_enter Try.func53, Try.ntmps53
  go_wp2
  go_ret2
  exact ⟨by rw [← hf]; simp, rfl⟩
theorem difference_any (x y : Int) (w : World) (hx : i64 x) (hy : i64 y) : Calls Try.prog 54 #[.int .i64 x, .int .i64 y] w fun e w' => e = .returned (.tuple #[.int .i64 (wrap64 (x - y)), .bool (fit (x - y))]) ∧ w' = w := by
  have hf := diff_fit x y hx hy
  go_enter Try.func54, Try.ntmps54
  go_wp2
  go_ret2
  exact ⟨by rw [← hf]; simp, rfl⟩
theorem product_any (x y : Int) (w : World) (hx : i64 x) (hy : i64 y) : Calls Try.prog 55 #[.int .i64 x, .int .i64 y] w fun e w' => e = .returned (.tuple #[.int .i64 (wrap64 (x * y)), .bool (fit (x * y))]) ∧ ∃ j, w' = w.drewN j := by
  by_cases h1 : y = -1
  · subst h1
    have hf : fit (x * -1) = (x != -9223372036854775808) := by
      unfold i64 at hx
      rw [Bool.eq_iff_iff, fit_iff, bne_iff_ne]
      omega
    go_enter Try.func55, Try.ntmps55
    go_wp2
    go_ret2
    exact ⟨by rw [hf]; simp, 0, rfl⟩
  by_cases h0 : y = 0
  · subst h0
    go_enter Try.func55, Try.ntmps55
    go_wp2
    go_quiet (fail)
    go_wp2
    go_ret2
    exact ⟨by simp [fit, wrap64], _, rfl⟩
  · have hf := prod_fit x y hy h0
    have hw := wrap_bd (x * y)
    have hq := tdiv_fit (wrap64 (x * y)) y hw h0 (by omega)
    have hg : (wrap64 ((wrap64 (x * y)).tdiv y) == x) = fit (x * y) := by rw [Bool.eq_iff_iff, beq_iff_eq, wrap_fit _ hq.1 hq.2]; exact hf
    go_enter Try.func55, Try.ntmps55
    go_wp2
    go_quiet (fail)
    go_wp2
    go_ret2
    exact ⟨by rw [← hg]; simp [h0, wrapK], _, rfl⟩
end Go.Proofs.Ytpegiljajlljkaa
