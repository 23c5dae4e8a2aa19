import Derived.Test.YtldgnfdhdmhcjaaDoorLow
import Derived.Test.YtldgnfdhdmhcjaaDoorAr
namespace Go.Proofs.YtldgnfdhdmhcjaaDoor
open Go.RowKit

theorem ret_int {k : IntKind} {a b : Int} (h : a = b) : Ending.returned (.int k a) = .returned (.int k b) := by rw [h]
theorem ret_bool {a b : Bool} (h : a = b) : Ending.returned (.bool a) = .returned (.bool b) := by rw [h]
theorem and7 (x : BitVec 3) : x &&& 7#3 = x := by revert x; decide
/-- a number's sign -/
def sg (n : Int) : BitVec 3 := if n < 0 then 1 else if n = 0 then 2 else 4
theorem sg_pos {n : Int} (h : ¬ n < 0) (h0 : ¬ n = 0) : sg n = 4 := by simp [sg, h, h0]
/-- even, odd -/
def pr (n : Int) : BitVec 3 := if n % 2 = 0 then 1 else 2

theorem sof_any (n : Int) (w : World) : Calls Tryd.prog 16 #[.int .i64 n] w fun e w' => e = .returned (.int .i64 (up (sg n))) ∧ w' = w := by
  by_cases h : n < 0
  · go_enter Tryd.func16, Tryd.ntmps16; go_wp2; go_ret; exact ⟨by simp [sg, h, up], rfl⟩
  by_cases h0 : n = 0
  · subst h0; go_enter Tryd.func16, Tryd.ntmps16; go_wp2; go_ret; exact ⟨by simp [sg, up], rfl⟩
  have h1 : 0 < n := by omega
  go_enter Tryd.func16, Tryd.ntmps16; go_wp2; go_ret; exact ⟨ret_int (by rw [sg_pos (n := n) (by omega) (by omega)]; rfl), rfl⟩
theorem sofr_any (n : Int) (w : World) : Calls Tryd.prog 17 #[.int .i64 n] w fun e w' => e = .returned (.int .i64 (up (sg n))) ∧ w' = w := by
  by_cases h : n < 0
  · go_enter Tryd.func17, Tryd.ntmps17; go_wp2; go_ret; exact ⟨by simp [sg, h, up], rfl⟩
  by_cases h0 : n = 0
  · subst h0; go_enter Tryd.func17, Tryd.ntmps17; go_wp2; go_ret; exact ⟨by simp [sg, up], rfl⟩
  go_enter Tryd.func17, Tryd.ntmps17; go_wp2; go_ret; exact ⟨ret_int (by rw [sg_pos (n := n) (by omega) (by omega)]; rfl), rfl⟩
/-- is a number's sign in a set? -/
def hasS (x : BitVec 3) (n : Int) : Bool := (x &&& sg n) != 0
theorem has_eq (a n : Int) : (bits .and .i64 a (up (sg n)) != 0) = hasS (low a) n := by
  rw [and_up _ _ (up_bd _).1 (up_bd _).2, low_up, up_bne0]; rfl
theorem shas_any (a n : Int) (w : World) : Calls Tryd.prog 18 #[.int .i64 a, .int .i64 n] w fun e w' => e = .returned (.bool (hasS (low a) n)) ∧ w' = w := by
  go_enter Tryd.func18, Tryd.ntmps18
  go_wp2_with (go_at_call 16; refine (sof_any _ _).mono ?_; rintro e w' ⟨rfl, rfl⟩)
  go_ret
  exact ⟨ret_bool (has_eq _ _), rfl⟩
theorem shasr_any (a n : Int) (w : World) : Calls Tryd.prog 19 #[.int .i64 a, .int .i64 n] w fun e w' => e = .returned (.bool (hasS (low a) n)) ∧ w' = w := by
  go_enter Tryd.func19, Tryd.ntmps19
  go_wp2_with (go_at_call 17; refine (sofr_any _ _).mono ?_; rintro e w' ⟨rfl, rfl⟩)
  go_ret
  exact ⟨ret_bool (has_eq _ _), rfl⟩
theorem sbits_any (a : Int) (w : World) : Calls Tryd.prog 13 #[.int .i64 a] w fun e w' => e = .returned (.int .i64 (up (low a))) ∧ w' = w := by
  go_enter Tryd.func13, Tryd.ntmps13
  go_wp2
  go_ret
  exact ⟨ret_int (by rw [and_up _ _ (by omega) (by omega), show low 7 = 7#3 from rfl, and7]), rfl⟩
theorem sright_any (a : Int) (w : World) : Calls Tryd.prog 15 #[.int .i64 a] w fun e w' => e = .returned (.bool (decide (1 ≤ a) && decide (a ≤ 7))) ∧ w' = w := by
  by_cases h : 1 ≤ a <;> by_cases h2 : a ≤ 7 <;>
  · go_enter Tryd.func15, Tryd.ntmps15
    go_wp2
    go_ret
    exact ⟨by simp [*], rfl⟩
theorem sjoin_any (a b : Int) (w : World) : Calls Tryd.prog 20 #[.int .i64 a, .int .i64 b] w fun e w' => e = .returned (.int .i64 (up (low a ||| low b))) ∧ w' = w := by
  go_enter Tryd.func20, Tryd.ntmps20
  go_wp2
  go_ret
  exact ⟨ret_int (by rw [and_up _ _ (by omega) (by omega), low_or, show low 7 = 7#3 from rfl, and7]), rfl⟩
theorem smeet_any (a b : Int) (w : World) : Calls Tryd.prog 21 #[.int .i64 a, .int .i64 b] w fun e w' => e = .returned (.int .i64 (up (low a &&& low b))) ∧ w' = w := by
  go_enter Tryd.func21, Tryd.ntmps21
  go_wp2
  go_ret
  exact ⟨ret_int (by rw [and_up _ _ (by omega) (by omega), low_and, show low 7 = 7#3 from rfl, and7]), rfl⟩
def withinS (x y : BitVec 3) : Bool := (x &&& ~~~ y) == 0
theorem swithin_any (a b : Int) (w : World) : Calls Tryd.prog 22 #[.int .i64 a, .int .i64 b] w fun e w' => e = .returned (.bool (withinS (low a) (low b))) ∧ w' = w := by
  go_enter Tryd.func22, Tryd.ntmps22
  go_wp2
  go_ret
  exact ⟨ret_bool (by rw [and_up _ _ (by omega) (by omega), low_andNot, show low 7 = 7#3 from rfl, and7]; exact up_beq _ 0), rfl⟩
def branchS (x : BitVec 3) (yes : Bool) : BitVec 3 := if yes then x &&& 5 else x &&& 2
theorem sbranch_any (a : Int) (yes : Bool) (w : World) : Calls Tryd.prog 27 #[.int .i64 a, .bool yes] w fun e w' => e = .returned (.int .i64 (up (branchS (low a) yes))) ∧ w' = w := by
  cases yes <;>
  · go_enter Tryd.func27, Tryd.ntmps27
    go_wp2
    go_ret
    exact ⟨ret_int (by rw [and_up _ _ (by omega) (by omega)]; rfl), rfl⟩
theorem sbranchr_any (a : Int) (yes : Bool) (w : World) : Calls Tryd.prog 28 #[.int .i64 a, .bool yes] w fun e w' => e = .returned (.int .i64 (up (branchS (low a) yes))) ∧ w' = w := by
  cases yes <;>
  · go_enter Tryd.func28, Tryd.ntmps28
    go_wp2
    go_ret
    exact ⟨ret_int (by rw [and_up _ _ (by omega) (by omega)]; rfl), rfl⟩
end Go.Proofs.YtldgnfdhdmhcjaaDoor
