import Derived.Test.YtfndahdnbkmkkaaLow
import Derived.Test.YtfndahdnbkmkkaaProg
import Derived.WalkKit
import Derived.WalkSpells
import Derived.ProofKit
import Derived.Below
namespace Go.Proofs.Ytfndahdnbkmkkaa
open Go.RowKit
def i64 (n : Int) : Prop := -9223372036854775808 ≤ n ∧ n ≤ 9223372036854775807
theorem ret_int {k : IntKind} {a b : Int} (h : a = b) : Ending.returned (.int k a) = .returned (.int k b) := by rw [h]
theorem ret_bool {a b : Bool} (h : a = b) : Ending.returned (.bool a) = .returned (.bool b) := by rw [h]
theorem and7 (x : BitVec 3) : x &&& 7#3 = x := by revert x; decide
/-- a number's sign -/
def sg (n : Int) : BitVec 3 := if n < 0 then 1 else if n = 0 then 2 else 4
theorem sg_pos {n : Int} (h : ¬ n < 0) (h0 : ¬ n = 0) : sg n = 4 := by simp [sg, h, h0]
/-- even, odd -/
def pr (n : Int) : BitVec 3 := if n % 2 = 0 then 1 else 2
theorem sof_any (n : Int) (w : World) : Calls Try.prog 44 #[.int .i64 n] w fun e w' => e = .returned (.int .i64 (up (sg n))) ∧ w' = w := by
  by_cases h : n < 0
  · go_enter Try.func44, Try.ntmps44; go_wp2; go_ret; exact ⟨by simp [sg, h, up], rfl⟩
  by_cases h0 : n = 0
  · subst h0; go_enter Try.func44, Try.ntmps44; go_wp2; go_ret; exact ⟨by simp [sg, up], rfl⟩
  have h1 : 0 < n := by omega
  go_enter Try.func44, Try.ntmps44; go_wp2; go_ret; exact ⟨ret_int (by rw [sg_pos (n := n) (by omega) (by omega)]; rfl), rfl⟩
theorem sofr_any (n : Int) (w : World) : Calls Try.prog 48 #[.int .i64 n] w fun e w' => e = .returned (.int .i64 (up (sg n))) ∧ w' = w := by
  by_cases h : n < 0
  · go_enter Try.func48, Try.ntmps48; go_wp2; go_ret; exact ⟨by simp [sg, h, up], rfl⟩
  by_cases h0 : n = 0
  · subst h0; go_enter Try.func48, Try.ntmps48; go_wp2; go_ret; exact ⟨by simp [sg, up], rfl⟩
  go_enter Try.func48, Try.ntmps48; go_wp2; go_ret; exact ⟨ret_int (by rw [sg_pos (n := n) (by omega) (by omega)]; rfl), rfl⟩
/-- is a number's sign in a set? -/
def hasS (x : BitVec 3) (n : Int) : Bool := (x &&& sg n) != 0
theorem has_eq (a n : Int) : (bits .and .i64 a (up (sg n)) != 0) = hasS (low a) n := by
  rw [and_up _ _ (up_bd _).1 (up_bd _).2, low_up, up_bne0]; rfl
theorem shas_any (a n : Int) (w : World) : Calls Try.prog 53 #[.int .i64 a, .int .i64 n] w fun e w' => e = .returned (.bool (hasS (low a) n)) ∧ w' = w := by
  go_enter Try.func53, Try.ntmps53
  go_wp2_with (go_at_call 44; refine (sof_any _ _).mono ?_; rintro e w' ⟨rfl, rfl⟩)
  go_ret
  exact ⟨ret_bool (has_eq _ _), rfl⟩
theorem shasr_any (a n : Int) (w : World) : Calls Try.prog 57 #[.int .i64 a, .int .i64 n] w fun e w' => e = .returned (.bool (hasS (low a) n)) ∧ w' = w := by
  go_enter Try.func57, Try.ntmps57
  go_wp2_with (go_at_call 48; refine (sofr_any _ _).mono ?_; rintro e w' ⟨rfl, rfl⟩)
  go_ret
  exact ⟨ret_bool (has_eq _ _), rfl⟩
theorem sright_any (a : Int) (w : World) : Calls Try.prog 26 #[.int .i64 a] w fun e w' => e = .returned (.bool (decide (1 ≤ a) && decide (a ≤ 7))) ∧ w' = w := by
  by_cases h : 1 ≤ a <;> by_cases h2 : a ≤ 7 <;>
  · go_enter Try.func26, Try.ntmps26
    go_wp2
    go_ret
    exact ⟨by simp [*], rfl⟩
theorem sjoin_any (a b : Int) (w : World) : Calls Try.prog 61 #[.int .i64 a, .int .i64 b] w fun e w' => e = .returned (.int .i64 (up (low a ||| low b))) ∧ w' = w := by
  go_enter Try.func61, Try.ntmps61
  go_wp2
  go_ret
  exact ⟨ret_int (by rw [and_up _ _ (by omega) (by omega), low_or, show low 7 = 7#3 from rfl, and7]), rfl⟩
theorem smeet_any (a b : Int) (w : World) : Calls Try.prog 36 #[.int .i64 a, .int .i64 b] w fun e w' => e = .returned (.int .i64 (up (low a &&& low b))) ∧ w' = w := by
  go_enter Try.func36, Try.ntmps36
  go_wp2
  go_ret
  exact ⟨ret_int (by rw [and_up _ _ (by omega) (by omega), low_and, show low 7 = 7#3 from rfl, and7]), rfl⟩
def withinS (x y : BitVec 3) : Bool := (x &&& ~~~ y) == 0
theorem swithin_any (a b : Int) (w : World) : Calls Try.prog 67 #[.int .i64 a, .int .i64 b] w fun e w' => e = .returned (.bool (withinS (low a) (low b))) ∧ w' = w := by
  go_enter Try.func67, Try.ntmps67
  go_wp2
  go_ret
  exact ⟨ret_bool (by rw [and_up _ _ (by omega) (by omega), low_andNot, show low 7 = 7#3 from rfl, and7]; exact up_beq _ 0), rfl⟩
end Go.Proofs.Ytfndahdnbkmkkaa
