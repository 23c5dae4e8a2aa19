import Derived.Test.YtpegiljajlljkaaSd
import Derived.WalkSmall
import Derived.Deep.RegionHeld3
import Derived.RegionTactic
namespace Go.Proofs.Ytpegiljajlljkaa
open Go.RowKit
theorem bcell {W w1 : World} (hb : Below W.heap.size W w1) : (∀ b o, b < W.heap.size → w1.cell? ⟨b, o, none⟩ = W.cell? ⟨b, o, none⟩) ∧ (∀ b o, b < W.heap.size → w1.frozen? ⟨b, o, none⟩ = W.frozen? ⟨b, o, none⟩) :=
  ⟨fun b o h => hb.cell (p := ⟨b, o, none⟩) h, fun b o h => hb.frozen (p := ⟨b, o, none⟩) h⟩
theorem ret_sb {x y : Int} {b : Bool} {r : (Int × Int) × Bool} (h1 : r.1.1 = x) (h2 : r.1.2 = y) (h3 : r.2 = b) : Ending.returned (.tuple #[.agg #[.int .i64 x, .int .i64 y], .bool b]) = Ending.returned (.tuple #[.agg #[.int .i64 (r.1).1, .int .i64 (r.1).2], .bool r.2]) := by subst h1 h2 h3; rfl
theorem ret_s {x y : Int} {r : Int × Int} (h1 : r.1 = x) (h2 : r.2 = y) : Ending.returned (.agg #[.int .i64 x, .int .i64 y]) = Ending.returned (.agg #[.int .i64 r.1, .int .i64 r.2]) := by subst h1 h2; rfl
theorem ret_i {x y : Int} (h1 : x = y) : Ending.returned (.int .i64 y) = Ending.returned (.int .i64 x) := by subst h1; rfl
def meetP (a b : Int × Int) : (Int × Int) × Bool := if max a.1 b.1 ≤ min a.2 b.2 then ((max a.1 b.1, min a.2 b.2), true) else ((0, 0), false)
def oneP (op : Int) (a : Int × Int) : (Int × Int) × Bool :=
  if op = 2 then (a, true)
  else if op = 3 then
    (if a.1 ≠ -9223372036854775808 then ((-a.2, -a.1), true)
    else if a.2 = -9223372036854775808 then (a, true)
    else (allP, true))
  else ((0, 0), false)
def brT (a : Int × Int) : (Int × Int) × Bool :=
  if a.1 = 0 ∧ a.2 = 0 then ((0, 0), false)
  else if a.1 = 0 then ((1, a.2), true)
  else if a.2 = 0 then ((a.1, -1), true)
  else (a, true)
def brF (a : Int × Int) : (Int × Int) × Bool := if a.1 ≤ 0 ∧ 0 ≤ a.2 then ((0, 0), true) else ((0, 0), false)
def branchP (a : Int × Int) (yes : Bool) : (Int × Int) × Bool := if yes then brT a else brF a
def New5 (w w' : World) : Prop := ∃ o p q r s, w' = ((((w.alloc o).alloc p).alloc q).alloc r).alloc s
set_option maxHeartbeats 4000000 in
theorem meet_any (a b : Int × Int) (w : World) : Calls Try.prog 12 #[.agg #[.int .i64 a.1, .int .i64 a.2], .agg #[.int .i64 b.1, .int .i64 b.2]] w fun e w' => e = .returned (.tuple #[.agg #[.int .i64 ((meetP a b).1).1, .int .i64 ((meetP a b).1).2], .bool (meetP a b).2]) ∧ New5 w w' := by
  by_cases h1 : a.1 < b.1
  · by_cases h2 : b.2 < a.2
    · by_cases h3 : b.1 ≤ b.2 <;>
      · go_enter Try.func12, Try.ntmps12
        go_wp2
        all_goals (refine bodyPost_ret (by simp [results, Try.results12, go_sem]; try rfl) rfl ⟨?_, _, _, _, _, _, rfl⟩; exact ret_sb (by unfold meetP; repeat' (first | rfl | omega | (dsimp only; omega) | split | (exfalso; omega))) (by unfold meetP; repeat' (first | rfl | omega | (dsimp only; omega) | split | (exfalso; omega))) (by unfold meetP; repeat' (first | rfl | omega | (dsimp only; omega) | split | (exfalso; omega))))
    · by_cases h3 : b.1 ≤ a.2 <;>
      · go_enter Try.func12, Try.ntmps12
        go_wp2
        all_goals (refine bodyPost_ret (by simp [results, Try.results12, go_sem]; try rfl) rfl ⟨?_, _, _, _, _, _, rfl⟩; exact ret_sb (by unfold meetP; repeat' (first | rfl | omega | (dsimp only; omega) | split | (exfalso; omega))) (by unfold meetP; repeat' (first | rfl | omega | (dsimp only; omega) | split | (exfalso; omega))) (by unfold meetP; repeat' (first | rfl | omega | (dsimp only; omega) | split | (exfalso; omega))))
  · by_cases h2 : b.2 < a.2
    · by_cases h3 : a.1 ≤ b.2 <;>
      · go_enter Try.func12, Try.ntmps12
        go_wp2
        all_goals (refine bodyPost_ret (by simp [results, Try.results12, go_sem]; try rfl) rfl ⟨?_, _, _, _, _, _, rfl⟩; exact ret_sb (by unfold meetP; repeat' (first | rfl | omega | (dsimp only; omega) | split | (exfalso; omega))) (by unfold meetP; repeat' (first | rfl | omega | (dsimp only; omega) | split | (exfalso; omega))) (by unfold meetP; repeat' (first | rfl | omega | (dsimp only; omega) | split | (exfalso; omega))))
    · by_cases h3 : a.1 ≤ a.2 <;>
      · go_enter Try.func12, Try.ntmps12
        go_wp2
        all_goals (refine bodyPost_ret (by simp [results, Try.results12, go_sem]; try rfl) rfl ⟨?_, _, _, _, _, _, rfl⟩; exact ret_sb (by unfold meetP; repeat' (first | rfl | omega | (dsimp only; omega) | split | (exfalso; omega))) (by unfold meetP; repeat' (first | rfl | omega | (dsimp only; omega) | split | (exfalso; omega))) (by unfold meetP; repeat' (first | rfl | omega | (dsimp only; omega) | split | (exfalso; omega))))
set_option maxHeartbeats 4000000 in
theorem meetr_any (a b : Int × Int) (w : World) : Calls Try.prog 13 #[.agg #[.int .i64 a.1, .int .i64 a.2], .agg #[.int .i64 b.1, .int .i64 b.2]] w fun e w' => e = .returned (.tuple #[.agg #[.int .i64 ((meetP a b).1).1, .int .i64 ((meetP a b).1).2], .bool (meetP a b).2]) ∧ New4 w w' := by
  by_cases h1 : a.1 < b.1
  · by_cases h2 : b.2 < a.2
    · by_cases h3 : b.1 ≤ b.2 <;>
      · go_enter Try.func13, Try.ntmps13
        go_wp2
        all_goals (refine bodyPost_ret (by simp [results, Try.results13, go_sem]; try rfl) rfl ⟨?_, _, _, _, _, rfl⟩; exact ret_sb (by unfold meetP; repeat' (first | rfl | omega | (dsimp only; omega) | split | (exfalso; omega))) (by unfold meetP; repeat' (first | rfl | omega | (dsimp only; omega) | split | (exfalso; omega))) (by unfold meetP; repeat' (first | rfl | omega | (dsimp only; omega) | split | (exfalso; omega))))
    · by_cases h3 : b.1 ≤ a.2 <;>
      · go_enter Try.func13, Try.ntmps13
        go_wp2
        all_goals (refine bodyPost_ret (by simp [results, Try.results13, go_sem]; try rfl) rfl ⟨?_, _, _, _, _, rfl⟩; exact ret_sb (by unfold meetP; repeat' (first | rfl | omega | (dsimp only; omega) | split | (exfalso; omega))) (by unfold meetP; repeat' (first | rfl | omega | (dsimp only; omega) | split | (exfalso; omega))) (by unfold meetP; repeat' (first | rfl | omega | (dsimp only; omega) | split | (exfalso; omega))))
  · by_cases h2 : b.2 < a.2
    · by_cases h3 : a.1 ≤ b.2 <;>
      · go_enter Try.func13, Try.ntmps13
        go_wp2
        all_goals (refine bodyPost_ret (by simp [results, Try.results13, go_sem]; try rfl) rfl ⟨?_, _, _, _, _, rfl⟩; exact ret_sb (by unfold meetP; repeat' (first | rfl | omega | (dsimp only; omega) | split | (exfalso; omega))) (by unfold meetP; repeat' (first | rfl | omega | (dsimp only; omega) | split | (exfalso; omega))) (by unfold meetP; repeat' (first | rfl | omega | (dsimp only; omega) | split | (exfalso; omega))))
    · by_cases h3 : a.1 ≤ a.2 <;>
      · go_enter Try.func13, Try.ntmps13
        go_wp2
        all_goals (refine bodyPost_ret (by simp [results, Try.results13, go_sem]; try rfl) rfl ⟨?_, _, _, _, _, rfl⟩; exact ret_sb (by unfold meetP; repeat' (first | rfl | omega | (dsimp only; omega) | split | (exfalso; omega))) (by unfold meetP; repeat' (first | rfl | omega | (dsimp only; omega) | split | (exfalso; omega))) (by unfold meetP; repeat' (first | rfl | omega | (dsimp only; omega) | split | (exfalso; omega))))
end Go.Proofs.Ytpegiljajlljkaa
