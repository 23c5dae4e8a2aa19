import Derived.Test.YtldgnfdhdmhcjaaDoorSp2
namespace Go.Proofs.YtldgnfdhdmhcjaaDoor
open Go.RowKit

theorem told_any (w : World) (G : GlobS w) : Calls Tryd.prog 14 #[] w fun e w' => e = .returned (.bool true) ∧ w' = w := by
  have t1 : up (twoS 4 (low 4) (low 4)) = 5 := by decide
  have t2 : up (twoS 7 (low 7) (low 2)) = 0 := by decide
  have t3 : up (sg (-3)) = 1 := by decide
  go_enter Tryd.func14, Tryd.ntmps14
  go_wp2_with (first | (go_at_call 25; refine (stwo_any _ _ _ _ G).mono ?_; rintro e w' ⟨rfl, rfl⟩) | (go_at_call 16; refine (sof_any _ _).mono ?_; rintro e w' ⟨rfl, rfl⟩) | (go_at_call 15; refine (sright_any _ _).mono ?_; rintro e w' ⟨rfl, rfl⟩))
  go_ret
  exact ⟨rfl, rfl⟩

/-- the signs of opposites -/
def oppS (x : BitVec 3) : BitVec 3 := (x &&& 2) ||| (if bt x 2 then 1 else 0) ||| (if bt x 0 then 5 else 0)
theorem and4 (a : Int) : bits .and .i64 a 4 = if bt (low a) 2 then 4 else 0 := by
  rw [and_up _ _ (by omega) (by omega)]
  generalize low a = x
  revert x; decide
theorem and1 (a : Int) : bits .and .i64 a 1 = if bt (low a) 0 then 1 else 0 := by
  rw [and_up _ _ (by omega) (by omega)]
  generalize low a = x
  revert x; decide
theorem and2 (a : Int) : bits .and .i64 a 2 = up (low a &&& 2) := by rw [and_up _ _ (by omega) (by omega)]; rfl
theorem or_c (x : BitVec 3) (c : Int) (h0 : 0 ≤ c) (h1 : c < 8) : bits .or .i64 (up x) c = up (x ||| low c) := by
  have h : c = up (low c) := up_low c h0 h1
  rw [h, or_up, low_up]
theorem opp_any (a : Int) (w : World) : Calls Tryd.prog 46 #[.int .i64 a] w fun e w' => e = .returned (.int .i64 (up (oppS (low a)))) ∧ w' = w := by
  have h4 := and4 a
  have h1 := and1 a
  have h2 := and2 a
  by_cases x4 : bt (low a) 2 = true
  · rw [if_pos x4] at h4
    by_cases x1 : bt (low a) 0 = true
    · rw [if_pos x1] at h1
      go_enter Tryd.func46, Tryd.ntmps46
      go_wp2
      go_ret
      exact ⟨ret_int (by rw [or_c _ 1 (by omega) (by omega), or_c _ 5 (by omega) (by omega)]; simp [oppS, x4, x1, show low 1 = (1 : BitVec 3) from rfl, show low 5 = (5 : BitVec 3) from rfl]), rfl⟩
    · rw [if_neg x1] at h1
      go_enter Tryd.func46, Tryd.ntmps46
      go_wp2
      go_ret
      exact ⟨ret_int (by rw [or_c _ 1 (by omega) (by omega)]; simp [oppS, x4, x1, show low 1 = (1 : BitVec 3) from rfl]), rfl⟩
  · rw [if_neg x4] at h4
    by_cases x1 : bt (low a) 0 = true
    · rw [if_pos x1] at h1
      go_enter Tryd.func46, Tryd.ntmps46
      go_wp2
      go_ret
      exact ⟨ret_int (by rw [or_c _ 5 (by omega) (by omega)]; simp [oppS, x4, x1, show low 5 = (5 : BitVec 3) from rfl]), rfl⟩
    · rw [if_neg x1] at h1
      go_enter Tryd.func46, Tryd.ntmps46
      go_wp2
      go_ret
      exact ⟨ret_int (by simp [oppS, x4, x1]), rfl⟩
def oneS (op : Int) (x : BitVec 3) : BitVec 3 := if op = 2 then x else if op = 3 then oppS x else 0
theorem sone_any (op a : Int) (w : World) : Calls Tryd.prog 23 #[.int .i64 op, .int .i64 a] w fun e w' => e = .returned (.int .i64 (up (oneS op (low a)))) ∧ w' = w := by
  by_cases h2 : op = 2
  · subst h2
    go_enter Tryd.func23, Tryd.ntmps23
    go_wp2
    go_ret
    exact ⟨ret_int (by rw [and_up _ _ (by omega) (by omega), show low 7 = 7#3 from rfl, and7]; rfl), rfl⟩
  by_cases h3 : op = 3
  · subst h3
    go_enter Tryd.func23, Tryd.ntmps23
    go_wp2_with (go_at_call 46; refine (opp_any _ _).mono ?_; rintro e w' ⟨rfl, rfl⟩)
    go_ret
    exact ⟨rfl, rfl⟩
  go_enter Tryd.func23, Tryd.ntmps23
  go_wp2
  go_ret
  exact ⟨ret_int (by simp [oneS, *]; rfl), rfl⟩
end Go.Proofs.YtldgnfdhdmhcjaaDoor
