import Derived.Test.YtpegiljajlljkaaSr1
namespace Go.Proofs.Ytpegiljajlljkaa
open Go.RowKit
set_option maxHeartbeats 4000000 in
theorem andr_any (a b : Int × Int) (w : World) : Calls Try.prog 51 #[.agg #[.int .i64 a.1, .int .i64 a.2], .agg #[.int .i64 b.1, .int .i64 b.2]] w fun e w' => e = .returned (.agg #[.int .i64 (andsP a b).1, .int .i64 (andsP a b).2]) ∧ Below w.heap.size w w' := by
  by_cases h1 : 0 ≤ a.1 <;> by_cases h2 : 0 ≤ b.1 <;> by_cases h3 : a.2 < 0 <;> by_cases h4 : b.2 < 0 <;>
  · go_enter Try.func51, Try.ntmps51
    go_wp2
    all_goals (refine bodyPost_ret (by simp [results, Try.results51, go_sem]; try rfl) rfl ⟨?_, (by repeat (first | exact Below.refl _ _ | (refine Below.drew ?_) | (refine below_drewN ?_ _) | (refine Below.setCell ?_ (by first | omega | (simp; done) | (simp; omega)) _) | (refine Below.alloc ?_ (by first | omega | (simp; done) | (simp; omega)) _) | (refine Below.trans ?_ (Below.mono (by assumption) (by first | omega | (simp; done) | (simp; omega))))))⟩; exact ret_s (by unfold andsP; repeat' (first | rfl | omega | (dsimp only; omega) | split | (exfalso; omega))) (by unfold andsP; repeat' (first | rfl | omega | (dsimp only; omega) | split | (exfalso; omega))))
end Go.Proofs.Ytpegiljajlljkaa
