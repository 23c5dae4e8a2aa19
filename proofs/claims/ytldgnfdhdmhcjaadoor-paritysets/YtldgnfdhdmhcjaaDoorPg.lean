import Derived.Test.YtldgnfdhdmhcjaaDoorSp3
namespace Go.Proofs.YtldgnfdhdmhcjaaDoor
open Go.RowKit

theorem pr_or (n : Int) : n % 2 = 0 ∨ n % 2 = 1 := by omega
theorem and_mod2 (n : Int) : bits .and .i64 n 1 = n % 2 := by
  have h := low_shr n 0 (by omega)
  have e : n / 2 ^ 0 = n := by simp
  rw [e] at h
  rw [h]
  have h2 : bt (low n) 0 = ((low n).toNat).testBit 0 := rfl
  have h3 : (low n).toNat = (n % 8).toNat := by unfold low; rw [BitVec.toNat_ofInt]; rfl
  rw [h2, h3, Nat.testBit_eq_decide_div_mod_eq]
  simp
  split <;> omega
theorem tmod2 (n : Int) : (n.tmod 2 == 0) = (n % 2 == 0) := by
  rw [Bool.eq_iff_iff]
  simp only [beq_iff_eq]
  constructor
  · intro h
    have := Int.dvd_of_tmod_eq_zero h
    omega
  · intro h
    exact Int.tmod_eq_zero_of_dvd (by omega)
theorem pof_any (n : Int) (w : World) : Calls Tryd.prog 33 #[.int .i64 n] w fun e w' => e = .returned (.int .i64 (up (pr n))) ∧ w' = w := by
  have h := and_mod2 n
  rcases pr_or n with h2 | h2
  · rw [h2] at h
    go_enter Tryd.func33, Tryd.ntmps33; go_wp2; go_ret; exact ⟨ret_int (by simp [pr, h2, up]), rfl⟩
  · rw [h2] at h
    go_enter Tryd.func33, Tryd.ntmps33; go_wp2; go_ret; exact ⟨ret_int (by simp [pr, h2, up]), rfl⟩
theorem pofr_any (n : Int) (hn : i64 n) (w : World) : Calls Tryd.prog 34 #[.int .i64 n] w fun e w' => e = .returned (.int .i64 (up (pr n))) ∧ w' = w := by
  unfold i64 at hn
  obtain ⟨n1, n2⟩ := hn
  have h := tmod2 n
  rcases pr_or n with h2 | h2
  · have h3 : (n.tmod 2 == 0) = true := by rw [h]; simp [h2]
    have h4 : n.tmod 2 = 0 := by simpa using h3
    clear h
    go_enter Tryd.func34, Tryd.ntmps34; go_wp2; go_ret; exact ⟨ret_int (by simp [pr, h2, up]), rfl⟩
  · have h3 : (n.tmod 2 == 0) = false := by rw [h]; simp [h2]
    clear h
    go_enter Tryd.func34, Tryd.ntmps34; go_wp2; go_ret; exact ⟨ret_int (by simp [pr, h2, up]), rfl⟩
def hasP (x : BitVec 3) (n : Int) : Bool := (x &&& pr n) != 0
theorem hasp_eq (a n : Int) : (bits .and .i64 a (up (pr n)) != 0) = hasP (low a) n := by
  rw [and_up _ _ (up_bd _).1 (up_bd _).2, low_up, up_bne0]; rfl
theorem phas_any (a n : Int) (w : World) : Calls Tryd.prog 35 #[.int .i64 a, .int .i64 n] w fun e w' => e = .returned (.bool (hasP (low a) n)) ∧ w' = w := by
  go_enter Tryd.func35, Tryd.ntmps35
  go_wp2_with (go_at_call 33; refine (pof_any _ _).mono ?_; rintro e w' ⟨rfl, rfl⟩)
  go_ret
  exact ⟨ret_bool (hasp_eq _ _), rfl⟩
theorem phasr_any (a n : Int) (hn : i64 n) (w : World) : Calls Tryd.prog 36 #[.int .i64 a, .int .i64 n] w fun e w' => e = .returned (.bool (hasP (low a) n)) ∧ w' = w := by
  go_enter Tryd.func36, Tryd.ntmps36
  go_wp2_with (go_at_call 34; refine (pofr_any _ hn _).mono ?_; rintro e w' ⟨rfl, rfl⟩)
  go_ret
  exact ⟨ret_bool (hasp_eq _ _), rfl⟩
theorem pright_any (a : Int) (w : World) : Calls Tryd.prog 32 #[.int .i64 a] w fun e w' => e = .returned (.bool (decide (1 ≤ a) && decide (a ≤ 3))) ∧ w' = w := by
  by_cases h : 1 ≤ a <;> by_cases h2 : a ≤ 3 <;>
  · go_enter Tryd.func32, Tryd.ntmps32
    go_wp2
    go_ret
    exact ⟨by simp [*], rfl⟩
/-- the lowest two -/
def lp (a : Int) : BitVec 3 := low a &&& 3
theorem and3 (a : Int) : bits .and .i64 a 3 = up (lp a) := by rw [and_up _ _ (by omega) (by omega)]; rfl
theorem pjoin_any (a b : Int) (w : World) : Calls Tryd.prog 37 #[.int .i64 a, .int .i64 b] w fun e w' => e = .returned (.int .i64 (up (lp a ||| lp b))) ∧ w' = w := by
  go_enter Tryd.func37, Tryd.ntmps37
  go_wp2
  go_ret
  exact ⟨ret_int (by rw [and3, lp, low_or, show ∀ x y : BitVec 3, (x ||| y) &&& 3 = (x &&& 3) ||| (y &&& 3) by decide]; rfl), rfl⟩
theorem pmeet_any (a b : Int) (w : World) : Calls Tryd.prog 38 #[.int .i64 a, .int .i64 b] w fun e w' => e = .returned (.int .i64 (up (lp a &&& lp b))) ∧ w' = w := by
  go_enter Tryd.func38, Tryd.ntmps38
  go_wp2
  go_ret
  exact ⟨ret_int (by rw [and3, lp, low_and, show ∀ x y : BitVec 3, (x &&& y) &&& 3 = (x &&& 3) &&& (y &&& 3) by decide]; rfl), rfl⟩
theorem pwithin_any (a b : Int) (w : World) : Calls Tryd.prog 39 #[.int .i64 a, .int .i64 b] w fun e w' => e = .returned (.bool (withinS (lp a) (lp b))) ∧ w' = w := by
  go_enter Tryd.func39, Tryd.ntmps39
  go_wp2
  go_ret
  exact ⟨ret_bool (by rw [and3, lp, low_andNot, show ∀ x y : BitVec 3, (x &&& ~~~ y) &&& 3 = (x &&& 3) &&& ~~~ (y &&& 3) by decide]; exact up_beq _ 0), rfl⟩
def branchP (x : BitVec 3) (yes : Bool) : BitVec 3 := if yes then x &&& 3 else x &&& 1
theorem pbranch_any (a : Int) (yes : Bool) (w : World) : Calls Tryd.prog 44 #[.int .i64 a, .bool yes] w fun e w' => e = .returned (.int .i64 (up (branchP (low a) yes))) ∧ w' = w := by
  cases yes <;>
  · go_enter Tryd.func44, Tryd.ntmps44
    go_wp2
    go_ret
    exact ⟨ret_int (by rw [and_up _ _ (by omega) (by omega)]; rfl), rfl⟩
theorem pbranchr_any (a : Int) (yes : Bool) (w : World) : Calls Tryd.prog 45 #[.int .i64 a, .bool yes] w fun e w' => e = .returned (.int .i64 (up (branchP (low a) yes))) ∧ w' = w := by
  cases yes <;>
  · go_enter Tryd.func45, Tryd.ntmps45
    go_wp2
    go_ret
    exact ⟨ret_int (by rw [and_up _ _ (by omega) (by omega)]; rfl), rfl⟩
def oneP (op : Int) (x : BitVec 3) : BitVec 3 := if op = 2 ∨ op = 3 then x &&& 3 else 0
theorem pone_any (op a : Int) (w : World) : Calls Tryd.prog 40 #[.int .i64 op, .int .i64 a] w fun e w' => e = .returned (.int .i64 (up (oneP op (low a)))) ∧ w' = w := by
  by_cases h2 : op = 2
  · subst h2; go_enter Tryd.func40, Tryd.ntmps40; go_wp2; go_ret; exact ⟨ret_int (by rw [and3]; rfl), rfl⟩
  by_cases h3 : op = 3
  · subst h3; go_enter Tryd.func40, Tryd.ntmps40; go_wp2; go_ret; exact ⟨ret_int (by rw [and3]; rfl), rfl⟩
  have b2 : (op == 2) = false := by simp [h2]
  have b3 : (op == 3) = false := by simp [h3]
  go_enter Tryd.func40, Tryd.ntmps40; go_wp2; go_ret; exact ⟨ret_int (by simp [oneP, h2, h3]; rfl), rfl⟩
theorem poner_any (op a : Int) (w : World) : Calls Tryd.prog 41 #[.int .i64 op, .int .i64 a] w fun e w' => e = .returned (.int .i64 (up (oneP op (low a)))) ∧ w' = w := by
  by_cases h2 : op = 2
  · subst h2; go_enter Tryd.func41, Tryd.ntmps41; go_wp2; go_ret; exact ⟨ret_int (by rw [and3]; rfl), rfl⟩
  by_cases h3 : op = 3
  · subst h3; go_enter Tryd.func41, Tryd.ntmps41; go_wp2; go_ret; exact ⟨ret_int (by rw [and3]; rfl), rfl⟩
  have b2 : (op == 2) = false := by simp [h2]
  have b3 : (op == 3) = false := by simp [h3]
  go_enter Tryd.func41, Tryd.ntmps41; go_wp2; go_ret; exact ⟨ret_int (by simp [oneP, h2, h3]; rfl), rfl⟩
end Go.Proofs.YtldgnfdhdmhcjaaDoor
