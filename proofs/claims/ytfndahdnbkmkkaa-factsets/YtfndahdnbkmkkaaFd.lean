import Derived.Test.YtfndahdnbkmkkaaFc
namespace Go.Proofs.Ytfndahdnbkmkkaa
open Go.RowKit
set_option maxHeartbeats 4000000 in
theorem nmeet_any (a b : Int × Int) (w : World) : Calls Try.prog 35 #[.agg #[.int .i64 a.1, .int .i64 a.2], .agg #[.int .i64 b.1, .int .i64 b.2]] w fun e w' => e = .returned (.tuple #[.agg #[.int .i64 ((meetP a b).1).1, .int .i64 ((meetP a b).1).2], .bool (meetP a b).2]) ∧ New5 w w' := by
  by_cases h1 : a.1 < b.1
  · by_cases h2 : b.2 < a.2
    · by_cases h3 : b.1 ≤ b.2 <;>
      · go_enter Try.func35, Try.ntmps35
        go_wp2
        all_goals (refine bodyPost_ret (by simp [results, Try.results35, go_sem]; try rfl) rfl ⟨?_, _, _, _, _, _, rfl⟩; exact ret_sb (by unfold meetP; repeat' (first | rfl | omega | (dsimp only; omega) | split | (exfalso; omega))) (by unfold meetP; repeat' (first | rfl | omega | (dsimp only; omega) | split | (exfalso; omega))) (by unfold meetP; repeat' (first | rfl | omega | (dsimp only; omega) | split | (exfalso; omega))))
    · by_cases h3 : b.1 ≤ a.2 <;>
      · go_enter Try.func35, Try.ntmps35
        go_wp2
        all_goals (refine bodyPost_ret (by simp [results, Try.results35, go_sem]; try rfl) rfl ⟨?_, _, _, _, _, _, rfl⟩; exact ret_sb (by unfold meetP; repeat' (first | rfl | omega | (dsimp only; omega) | split | (exfalso; omega))) (by unfold meetP; repeat' (first | rfl | omega | (dsimp only; omega) | split | (exfalso; omega))) (by unfold meetP; repeat' (first | rfl | omega | (dsimp only; omega) | split | (exfalso; omega))))
  · by_cases h2 : b.2 < a.2
    · by_cases h3 : a.1 ≤ b.2 <;>
      · go_enter Try.func35, Try.ntmps35
        go_wp2
        all_goals (refine bodyPost_ret (by simp [results, Try.results35, go_sem]; try rfl) rfl ⟨?_, _, _, _, _, _, rfl⟩; exact ret_sb (by unfold meetP; repeat' (first | rfl | omega | (dsimp only; omega) | split | (exfalso; omega))) (by unfold meetP; repeat' (first | rfl | omega | (dsimp only; omega) | split | (exfalso; omega))) (by unfold meetP; repeat' (first | rfl | omega | (dsimp only; omega) | split | (exfalso; omega))))
    · by_cases h3 : a.1 ≤ a.2 <;>
      · go_enter Try.func35, Try.ntmps35
        go_wp2
        all_goals (refine bodyPost_ret (by simp [results, Try.results35, go_sem]; try rfl) rfl ⟨?_, _, _, _, _, _, rfl⟩; exact ret_sb (by unfold meetP; repeat' (first | rfl | omega | (dsimp only; omega) | split | (exfalso; omega))) (by unfold meetP; repeat' (first | rfl | omega | (dsimp only; omega) | split | (exfalso; omega))) (by unfold meetP; repeat' (first | rfl | omega | (dsimp only; omega) | split | (exfalso; omega))))
set_option maxHeartbeats 4000000 in
theorem nmeetr_any (a b : Int × Int) (w : World) : Calls Try.prog 40 #[.agg #[.int .i64 a.1, .int .i64 a.2], .agg #[.int .i64 b.1, .int .i64 b.2]] w fun e w' => e = .returned (.tuple #[.agg #[.int .i64 ((meetP a b).1).1, .int .i64 ((meetP a b).1).2], .bool (meetP a b).2]) ∧ New4 w w' := by
  by_cases h1 : a.1 < b.1
  · by_cases h2 : b.2 < a.2
    · by_cases h3 : b.1 ≤ b.2 <;>
      · go_enter Try.func40, Try.ntmps40
        go_wp2
        all_goals (refine bodyPost_ret (by simp [results, Try.results40, go_sem]; try rfl) rfl ⟨?_, _, _, _, _, rfl⟩; exact ret_sb (by unfold meetP; repeat' (first | rfl | omega | (dsimp only; omega) | split | (exfalso; omega))) (by unfold meetP; repeat' (first | rfl | omega | (dsimp only; omega) | split | (exfalso; omega))) (by unfold meetP; repeat' (first | rfl | omega | (dsimp only; omega) | split | (exfalso; omega))))
    · by_cases h3 : b.1 ≤ a.2 <;>
      · go_enter Try.func40, Try.ntmps40
        go_wp2
        all_goals (refine bodyPost_ret (by simp [results, Try.results40, go_sem]; try rfl) rfl ⟨?_, _, _, _, _, rfl⟩; exact ret_sb (by unfold meetP; repeat' (first | rfl | omega | (dsimp only; omega) | split | (exfalso; omega))) (by unfold meetP; repeat' (first | rfl | omega | (dsimp only; omega) | split | (exfalso; omega))) (by unfold meetP; repeat' (first | rfl | omega | (dsimp only; omega) | split | (exfalso; omega))))
  · by_cases h2 : b.2 < a.2
    · by_cases h3 : a.1 ≤ b.2 <;>
      · go_enter Try.func40, Try.ntmps40
        go_wp2
        all_goals (refine bodyPost_ret (by simp [results, Try.results40, go_sem]; try rfl) rfl ⟨?_, _, _, _, _, rfl⟩; exact ret_sb (by unfold meetP; repeat' (first | rfl | omega | (dsimp only; omega) | split | (exfalso; omega))) (by unfold meetP; repeat' (first | rfl | omega | (dsimp only; omega) | split | (exfalso; omega))) (by unfold meetP; repeat' (first | rfl | omega | (dsimp only; omega) | split | (exfalso; omega))))
    · by_cases h3 : a.1 ≤ a.2 <;>
      · go_enter Try.func40, Try.ntmps40
        go_wp2
        all_goals (refine bodyPost_ret (by simp [results, Try.results40, go_sem]; try rfl) rfl ⟨?_, _, _, _, _, rfl⟩; exact ret_sb (by unfold meetP; repeat' (first | rfl | omega | (dsimp only; omega) | split | (exfalso; omega))) (by unfold meetP; repeat' (first | rfl | omega | (dsimp only; omega) | split | (exfalso; omega))) (by unfold meetP; repeat' (first | rfl | omega | (dsimp only; omega) | split | (exfalso; omega))))
end Go.Proofs.Ytfndahdnbkmkkaa
