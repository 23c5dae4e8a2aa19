import Derived.Test.YtpegiljajlljkaaAr
namespace Go.Proofs.Ytpegiljajlljkaa
open Go.RowKit
/-- new blocks alone -/
def New1 (w w' : World) : Prop := ∃ o, w' = w.alloc o
def New2 (w w' : World) : Prop := ∃ o p, w' = (w.alloc o).alloc p
theorem right_any (lo hi : Int) (w : World) : Calls Try.prog 9 #[.agg #[.int .i64 lo, .int .i64 hi]] w fun e w' => e = .returned (.bool (decide (lo ≤ hi))) ∧ New1 w w' := by
  go_enter Try.func9, Try.ntmps9
  go_wp2
  go_ret
  exact ⟨rfl, _, rfl⟩
theorem to_any (lo hi : Int) (w : World) : Calls Try.prog 10 #[.agg #[.int .i64 lo, .int .i64 hi]] w fun e w' => e = .returned (.agg #[.int .i64 lo, .int .i64 hi]) ∧ New2 w w' := by
  go_enter Try.func10, Try.ntmps10
  go_wp2
  exact bodyPost_ret (by simp [results, Try.results10, go_sem]; try rfl) rfl ⟨rfl, _, _, rfl⟩
theorem from_any (lo hi : Int) (w : World) : Calls Try.prog 15 #[.agg #[.int .i64 lo, .int .i64 hi]] w fun e w' => e = .returned (.agg #[.int .i64 lo, .int .i64 hi]) ∧ New2 w w' := by
  go_enter Try.func15, Try.ntmps15
  go_wp2
  exact bodyPost_ret (by simp [results, Try.results15, go_sem]; try rfl) rfl ⟨rfl, _, _, rfl⟩
theorem of_any (n : Int) (w : World) : Calls Try.prog 16 #[.int .i64 n] w fun e w' => e = .returned (.agg #[.int .i64 n, .int .i64 n]) ∧ New1 w w' := by
  go_enter Try.func16, Try.ntmps16
  go_wp2
  exact bodyPost_ret (by simp [results, Try.results16, go_sem]; try rfl) rfl ⟨rfl, _, rfl⟩
theorem any_any (w : World) : Calls Try.prog 17 #[] w fun e w' => e = .returned (.agg #[.int .i64 (-9223372036854775808), .int .i64 9223372036854775807]) ∧ New1 w w' := by
  go_enter Try.func17, Try.ntmps17
  go_wp2
  exact bodyPost_ret (by simp [results, Try.results17, go_sem]; try rfl) rfl ⟨rfl, _, rfl⟩
theorem anyr_any (w : World) : Calls Try.prog 18 #[] w fun e w' => e = .returned (.agg #[.int .i64 (-9223372036854775808), .int .i64 9223372036854775807]) ∧ New1 w w' := by
  go_enter Try.func18, Try.ntmps18
  go_wp2
  exact bodyPost_ret (by simp [results, Try.results18, go_sem]; try rfl) rfl ⟨rfl, _, rfl⟩
def hasR (lo hi n : Int) : Bool := decide (lo ≤ n) && decide (n ≤ hi)
theorem has_any (lo hi n : Int) (w : World) : Calls Try.prog 19 #[.agg #[.int .i64 lo, .int .i64 hi], .int .i64 n] w fun e w' => e = .returned (.bool (hasR lo hi n)) ∧ New1 w w' := by
  by_cases h : lo ≤ n <;> by_cases h2 : n ≤ hi <;>
  · go_enter Try.func19, Try.ntmps19
    go_wp2
    go_ret
    exact ⟨by simp [hasR, *], _, rfl⟩
theorem fix_any (lo hi : Int) (w : World) : Calls Try.prog 11 #[.agg #[.int .i64 lo, .int .i64 hi]] w fun e w' => e = .returned (.agg #[.int .i64 (min lo hi), .int .i64 (max lo hi)]) ∧ New2 w w' := by
  by_cases h : hi < lo
  · go_enter Try.func11, Try.ntmps11
    go_wp2
    exact bodyPost_ret (by simp [results, Try.results11, go_sem]; try rfl) rfl ⟨by rw [Int.min_eq_right (by omega), Int.max_eq_left (by omega)], _, _, rfl⟩
  · go_enter Try.func11, Try.ntmps11
    go_wp2
    exact bodyPost_ret (by simp [results, Try.results11, go_sem]; try rfl) rfl ⟨by rw [Int.min_eq_left (by omega), Int.max_eq_right (by omega)], _, _, rfl⟩
end Go.Proofs.Ytpegiljajlljkaa
