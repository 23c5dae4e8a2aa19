import Derived.Test.YtfndahdnbkmkkaaFa
namespace Go.Proofs.Ytfndahdnbkmkkaa
open Go.RowKit
theorem pr_or (n : Int) : n % 2 = 0 ∨ n % 2 = 1 := by omega
theorem and_mod2 (n : Int) : bits .and .i64 n 1 = n % 2 := by
  have h := low_shr n 0 (by omega)
  have e : n / 2 ^ 0 = n := by simp
  rw [e] at h
  rw [h]
  have h2 : bt (low n) 0 = ((low n).toNat).testBit 0 := rfl
  have h3 : (low n).toNat = (n % 8).toNat := by unfold low; rw [BitVec.toNat_ofInt]; rfl
  rw [h2, h3, Nat.testBit_eq_decide_div_mod_eq]
  simp
  split <;> omega
theorem tmod2 (n : Int) : (n.tmod 2 == 0) = (n % 2 == 0) := by
  rw [Bool.eq_iff_iff]
  simp only [beq_iff_eq]
  constructor
  · intro h
    have := Int.dvd_of_tmod_eq_zero h
    omega
  · intro h
    exact Int.tmod_eq_zero_of_dvd (by omega)
theorem pof_any (n : Int) (w : World) : Calls Try.prog 47 #[.int .i64 n] w fun e w' => e = .returned (.int .i64 (up (pr n))) ∧ w' = w := by
  have h := and_mod2 n
  rcases pr_or n with h2 | h2
  · rw [h2] at h
    go_enter Try.func47, Try.ntmps47; go_wp2; go_ret; exact ⟨ret_int (by simp [pr, h2, up]), rfl⟩
  · rw [h2] at h
    go_enter Try.func47, Try.ntmps47; go_wp2; go_ret; exact ⟨ret_int (by simp [pr, h2, up]), rfl⟩
theorem pofr_any (n : Int) (hn : i64 n) (w : World) : Calls Try.prog 49 #[.int .i64 n] w fun e w' => e = .returned (.int .i64 (up (pr n))) ∧ w' = w := by
  unfold i64 at hn
  obtain ⟨n1, n2⟩ := hn
  have h := tmod2 n
  rcases pr_or n with h2 | h2
  · have h3 : (n.tmod 2 == 0) = true := by rw [h]; simp [h2]
    have h4 : n.tmod 2 = 0 := by simpa using h3
    clear h
    go_enter Try.func49, Try.ntmps49; go_wp2; go_ret; exact ⟨ret_int (by simp [pr, h2, up]), rfl⟩
  · have h3 : (n.tmod 2 == 0) = false := by rw [h]; simp [h2]
    clear h
    go_enter Try.func49, Try.ntmps49; go_wp2; go_ret; exact ⟨ret_int (by simp [pr, h2, up]), rfl⟩
def hasP (x : BitVec 3) (n : Int) : Bool := (x &&& pr n) != 0
theorem hasp_eq (a n : Int) : (bits .and .i64 a (up (pr n)) != 0) = hasP (low a) n := by
  rw [and_up _ _ (up_bd _).1 (up_bd _).2, low_up, up_bne0]; rfl
theorem phas_any (a n : Int) (w : World) : Calls Try.prog 56 #[.int .i64 a, .int .i64 n] w fun e w' => e = .returned (.bool (hasP (low a) n)) ∧ w' = w := by
  go_enter Try.func56, Try.ntmps56
  go_wp2_with (go_at_call 47; refine (pof_any _ _).mono ?_; rintro e w' ⟨rfl, rfl⟩)
  go_ret
  exact ⟨ret_bool (hasp_eq _ _), rfl⟩
theorem phasr_any (a n : Int) (hn : i64 n) (w : World) : Calls Try.prog 60 #[.int .i64 a, .int .i64 n] w fun e w' => e = .returned (.bool (hasP (low a) n)) ∧ w' = w := by
  go_enter Try.func60, Try.ntmps60
  go_wp2_with (go_at_call 49; refine (pofr_any _ hn _).mono ?_; rintro e w' ⟨rfl, rfl⟩)
  go_ret
  exact ⟨ret_bool (hasp_eq _ _), rfl⟩
theorem pright_any (a : Int) (w : World) : Calls Try.prog 29 #[.int .i64 a] w fun e w' => e = .returned (.bool (decide (1 ≤ a) && decide (a ≤ 3))) ∧ w' = w := by
  by_cases h : 1 ≤ a <;> by_cases h2 : a ≤ 3 <;>
  · go_enter Try.func29, Try.ntmps29
    go_wp2
    go_ret
    exact ⟨by simp [*], rfl⟩
/-- the lowest two -/
def lp (a : Int) : BitVec 3 := low a &&& 3
theorem and3 (a : Int) : bits .and .i64 a 3 = up (lp a) := by rw [and_up _ _ (by omega) (by omega)]; rfl
theorem pjoin_any (a b : Int) (w : World) : Calls Try.prog 64 #[.int .i64 a, .int .i64 b] w fun e w' => e = .returned (.int .i64 (up (lp a ||| lp b))) ∧ w' = w := by
  go_enter Try.func64, Try.ntmps64
  go_wp2
  go_ret
  exact ⟨ret_int (by rw [and3, lp, low_or, show ∀ x y : BitVec 3, (x ||| y) &&& 3 = (x &&& 3) ||| (y &&& 3) by decide]; rfl), rfl⟩
theorem pmeet_any (a b : Int) (w : World) : Calls Try.prog 37 #[.int .i64 a, .int .i64 b] w fun e w' => e = .returned (.int .i64 (up (lp a &&& lp b))) ∧ w' = w := by
  go_enter Try.func37, Try.ntmps37
  go_wp2
  go_ret
  exact ⟨ret_int (by rw [and3, lp, low_and, show ∀ x y : BitVec 3, (x &&& y) &&& 3 = (x &&& 3) &&& (y &&& 3) by decide]; rfl), rfl⟩
theorem pwithin_any (a b : Int) (w : World) : Calls Try.prog 70 #[.int .i64 a, .int .i64 b] w fun e w' => e = .returned (.bool (withinS (lp a) (lp b))) ∧ w' = w := by
  go_enter Try.func70, Try.ntmps70
  go_wp2
  go_ret
  exact ⟨ret_bool (by rw [and3, lp, low_andNot, show ∀ x y : BitVec 3, (x &&& ~~~ y) &&& 3 = (x &&& 3) &&& ~~~ (y &&& 3) by decide]; exact up_beq _ 0), rfl⟩
end Go.Proofs.Ytfndahdnbkmkkaa
