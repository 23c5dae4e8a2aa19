import Derived.Test.YtpegiljajlljkaaSb
namespace Go.Proofs.Ytpegiljajlljkaa
open Go.RowKit
theorem hasr_any (lo hi n : Int) (w : World) : Calls Try.prog 20 #[.agg #[.int .i64 lo, .int .i64 hi], .int .i64 n] w fun e w' => e = .returned (.bool (hasR lo hi n)) ∧ New1 w w' := by
  by_cases h : lo ≤ n <;> by_cases h2 : n ≤ hi <;>
  · go_enter Try.func20, Try.ntmps20
    go_wp2
    go_ret
    exact ⟨by simp [hasR, *], _, rfl⟩
def withinR (al ah bl bh : Int) : Bool := decide (bl ≤ al) && decide (ah ≤ bh)
theorem within_any (al ah bl bh : Int) (w : World) : Calls Try.prog 23 #[.agg #[.int .i64 al, .int .i64 ah], .agg #[.int .i64 bl, .int .i64 bh]] w fun e w' => e = .returned (.bool (withinR al ah bl bh)) ∧ New2 w w' := by
  by_cases h : bl ≤ al <;> by_cases h2 : ah ≤ bh <;>
  · go_enter Try.func23, Try.ntmps23
    go_wp2
    go_ret
    exact ⟨by simp [withinR, *], _, _, rfl⟩
theorem withinr_any (al ah bl bh : Int) (w : World) : Calls Try.prog 24 #[.agg #[.int .i64 al, .int .i64 ah], .agg #[.int .i64 bl, .int .i64 bh]] w fun e w' => e = .returned (.bool (withinR al ah bl bh)) ∧ New2 w w' := by
  by_cases h : bl ≤ al <;> by_cases h2 : ah ≤ bh <;>
  · go_enter Try.func24, Try.ntmps24
    go_wp2
    go_ret
    exact ⟨by simp [withinR, *], _, _, rfl⟩
def New3 (w w' : World) : Prop := ∃ o p q, w' = ((w.alloc o).alloc p).alloc q
theorem join_any (al ah bl bh : Int) (w : World) : Calls Try.prog 21 #[.agg #[.int .i64 al, .int .i64 ah], .agg #[.int .i64 bl, .int .i64 bh]] w fun e w' => e = .returned (.agg #[.int .i64 (min al bl), .int .i64 (max ah bh)]) ∧ New3 w w' := by
  by_cases h : al ≤ bl <;> by_cases h2 : ah ≤ bh <;>
  · go_enter Try.func21, Try.ntmps21
    go_wp2
    all_goals (exact bodyPost_ret (by simp [results, Try.results21, go_sem]; try rfl) rfl ⟨by simp only [Int.min_def, Int.max_def]; repeat' (first | rfl | split | (exfalso; omega) | (rw [show ah = bh by omega])), _, _, _, rfl⟩)
theorem joinr_any (al ah bl bh : Int) (w : World) : Calls Try.prog 22 #[.agg #[.int .i64 al, .int .i64 ah], .agg #[.int .i64 bl, .int .i64 bh]] w fun e w' => e = .returned (.agg #[.int .i64 (min al bl), .int .i64 (max ah bh)]) ∧ New3 w w' := by
  by_cases h : al ≤ bl <;> by_cases h2 : ah ≤ bh <;>
  · go_enter Try.func22, Try.ntmps22
    go_wp2
    all_goals (exact bodyPost_ret (by simp [results, Try.results22, go_sem]; try rfl) rfl ⟨by simp only [Int.min_def, Int.max_def]; repeat' (first | rfl | split | (exfalso; omega) | (rw [show ah = bh by omega])), _, _, _, rfl⟩)
theorem widen_any (al ah bl bh : Int) (w : World) : Calls Try.prog 25 #[.agg #[.int .i64 al, .int .i64 ah], .agg #[.int .i64 bl, .int .i64 bh]] w fun e w' => e = .returned (.agg #[.int .i64 (if bl < al then -9223372036854775808 else al), .int .i64 (if ah < bh then 9223372036854775807 else ah)]) ∧ Below w.heap.size w w' := by
  by_cases h : bl < al <;> by_cases h2 : ah < bh <;>
  · go_enter Try.func25, Try.ntmps25
    go_wp2
    all_goals (exact bodyPost_ret (by simp [results, Try.results25, go_sem]; try rfl) rfl ⟨by first | rfl | simp [*], (by repeat (first | exact Below.refl _ _ | (refine Below.drew ?_) | (refine Below.setCell ?_ (by first | omega | (simp; done) | (simp; omega)) _) | (refine Below.alloc ?_ (by first | omega | (simp; done) | (simp; omega)) _) | (refine Below.trans ?_ (Below.mono (by assumption) (by first | omega | (simp; done) | (simp; omega))))))⟩)
theorem widenr_any (al ah bl bh : Int) (w : World) : Calls Try.prog 26 #[.agg #[.int .i64 al, .int .i64 ah], .agg #[.int .i64 bl, .int .i64 bh]] w fun e w' => e = .returned (.agg #[.int .i64 (if bl < al then -9223372036854775808 else al), .int .i64 (if ah < bh then 9223372036854775807 else ah)]) ∧ Below w.heap.size w w' := by
  by_cases h : bl < al <;> by_cases h2 : ah < bh <;>
  · go_enter Try.func26, Try.ntmps26
    go_wp2
    all_goals (exact bodyPost_ret (by simp [results, Try.results26, go_sem]; try rfl) rfl ⟨by first | rfl | simp [*], (by repeat (first | exact Below.refl _ _ | (refine Below.drew ?_) | (refine Below.setCell ?_ (by first | omega | (simp; done) | (simp; omega)) _) | (refine Below.alloc ?_ (by first | omega | (simp; done) | (simp; omega)) _) | (refine Below.trans ?_ (Below.mono (by assumption) (by first | omega | (simp; done) | (simp; omega))))))⟩)
end Go.Proofs.Ytpegiljajlljkaa
