import Derived.Test.YtpegiljajlljkaaSe
namespace Go.Proofs.Ytpegiljajlljkaa
open Go.RowKit
set_option maxHeartbeats 4000000 in
theorem ands_any (a b : Int × Int) (w : World) : Calls Try.prog 41 #[.agg #[.int .i64 a.1, .int .i64 a.2], .agg #[.int .i64 b.1, .int .i64 b.2]] w fun e w' => e = .returned (.agg #[.int .i64 (andsP a b).1, .int .i64 (andsP a b).2]) ∧ Below w.heap.size w w' := by
  by_cases h1 : 0 ≤ a.1 <;> by_cases h2 : 0 ≤ b.1 <;> by_cases h3 : a.2 < 0 <;> by_cases h4 : b.2 < 0 <;>
  · go_enter Try.func41, Try.ntmps41
    go_wp2
    all_goals (refine bodyPost_ret (by simp [results, Try.results41, go_sem]; try rfl) rfl ⟨?_, (by repeat (first | exact Below.refl _ _ | (refine Below.drew ?_) | (refine below_drewN ?_ _) | (refine Below.setCell ?_ (by first | omega | (simp; done) | (simp; omega)) _) | (refine Below.alloc ?_ (by first | omega | (simp; done) | (simp; omega)) _) | (refine Below.trans ?_ (Below.mono (by assumption) (by first | omega | (simp; done) | (simp; omega))))))⟩; exact ret_s (by unfold andsP; repeat' (first | rfl | omega | (dsimp only; omega) | split | (exfalso; omega))) (by unfold andsP; repeat' (first | rfl | omega | (dsimp only; omega) | split | (exfalso; omega))))
set_option maxHeartbeats 4000000 in
theorem lesses_any (a b : Int × Int) (w : World) : Calls Try.prog 43 #[.agg #[.int .i64 a.1, .int .i64 a.2], .agg #[.int .i64 b.1, .int .i64 b.2]] w fun e w' => e = .returned (.agg #[.int .i64 (lessP a b).1, .int .i64 (lessP a b).2]) ∧ Below w.heap.size w w' := by
  by_cases h1 : a.2 < b.1 <;> by_cases h2 : b.2 ≤ a.1 <;>
  · go_enter Try.func43, Try.ntmps43
    go_wp2_with (go_at_call 16; refine (of_any _ _).mono ?_; rintro e w1 ⟨rfl, o1, rfl⟩)
    all_goals (refine bodyPost_ret (by simp [results, Try.results43, go_sem]; try rfl) rfl ⟨?_, (by repeat (first | exact Below.refl _ _ | (refine Below.drew ?_) | (refine below_drewN ?_ _) | (refine Below.setCell ?_ (by first | omega | (simp; done) | (simp; omega)) _) | (refine Below.alloc ?_ (by first | omega | (simp; done) | (simp; omega)) _) | (refine Below.trans ?_ (Below.mono (by assumption) (by first | omega | (simp; done) | (simp; omega))))))⟩; exact ret_s (by unfold lessP; repeat' (first | rfl | omega | (dsimp only; omega) | split | (exfalso; omega))) (by unfold lessP; repeat' (first | rfl | omega | (dsimp only; omega) | split | (exfalso; omega))))
end Go.Proofs.Ytpegiljajlljkaa
