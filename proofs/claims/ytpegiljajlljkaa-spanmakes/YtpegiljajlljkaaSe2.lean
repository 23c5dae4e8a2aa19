import Derived.Test.YtpegiljajlljkaaSe
namespace Go.Proofs.Ytpegiljajlljkaa
open Go.RowKit
set_option maxHeartbeats 4000000 in
theorem far_any (b : Int × Int) (w : World) (hb : Sp b) : Calls Try.prog 59 #[.agg #[.int .i64 b.1, .int .i64 b.2]] w fun e w' => e = .returned (.int .i64 (farP b)) ∧ New1 w w' := by
  unfold Sp at hb
  obtain ⟨b1, b2, b3⟩ := hb
  go_enter Try.func59, Try.ntmps59
  go_wp2
  all_goals (go_ret; refine ⟨?_, _, rfl⟩; exact ret_i (by unfold farP; omega))
def oppP (a : Int × Int) : Int × Int :=
  if a.1 ≠ -9223372036854775808 then (-a.2, -a.1)
  else if a.2 = -9223372036854775808 then a
  else allP
set_option maxHeartbeats 4000000 in
theorem opp_any (a : Int × Int) (w : World) (ha : Sp a) : Calls Try.prog 35 #[.agg #[.int .i64 a.1, .int .i64 a.2]] w fun e w' => e = .returned (.agg #[.int .i64 (oppP a).1, .int .i64 (oppP a).2]) ∧ Below w.heap.size w w' := by
  unfold Sp at ha
  obtain ⟨a1, a2, a3⟩ := ha
  by_cases h1 : a.1 = -9223372036854775808
  · by_cases h2 : a.2 = -9223372036854775808
    · go_enter Try.func35, Try.ntmps35
      go_wp2_with (go_at_call 17; refine (any_any _).mono ?_; rintro e w1 ⟨rfl, o1, rfl⟩)
      all_goals (refine bodyPost_ret (by simp [results, Try.results35, go_sem]; try rfl) rfl ⟨?_, (by repeat (first | exact Below.refl _ _ | (refine Below.drew ?_) | (refine below_drewN ?_ _) | (refine Below.setCell ?_ (by first | omega | (simp; done) | (simp; omega)) _) | (refine Below.alloc ?_ (by first | omega | (simp; done) | (simp; omega)) _) | (refine Below.trans ?_ (Below.mono (by assumption) (by first | omega | (simp; done) | (simp; omega))))))⟩; exact ret_s (by unfold oppP; repeat' (first | rfl | omega | (dsimp only; omega) | split | (exfalso; omega))) (by unfold oppP; repeat' (first | rfl | omega | (dsimp only; omega) | split | (exfalso; omega))))
    · go_enter Try.func35, Try.ntmps35
      go_wp2_with (go_at_call 17; refine (any_any _).mono ?_; rintro e w1 ⟨rfl, o1, rfl⟩)
      all_goals (refine bodyPost_ret (by simp [results, Try.results35, go_sem]; try rfl) rfl ⟨?_, (by repeat (first | exact Below.refl _ _ | (refine Below.drew ?_) | (refine below_drewN ?_ _) | (refine Below.setCell ?_ (by first | omega | (simp; done) | (simp; omega)) _) | (refine Below.alloc ?_ (by first | omega | (simp; done) | (simp; omega)) _) | (refine Below.trans ?_ (Below.mono (by assumption) (by first | omega | (simp; done) | (simp; omega))))))⟩; exact ret_s (by unfold oppP allP; repeat' (first | rfl | omega | (dsimp only; omega) | split | (exfalso; omega))) (by unfold oppP allP; repeat' (first | rfl | omega | (dsimp only; omega) | split | (exfalso; omega))))
  · go_enter Try.func35, Try.ntmps35
    go_wp2_with (go_at_call 17; refine (any_any _).mono ?_; rintro e w1 ⟨rfl, o1, rfl⟩)
    all_goals (refine bodyPost_ret (by simp [results, Try.results35, go_sem]; try rfl) rfl ⟨?_, (by repeat (first | exact Below.refl _ _ | (refine Below.drew ?_) | (refine below_drewN ?_ _) | (refine Below.setCell ?_ (by first | omega | (simp; done) | (simp; omega)) _) | (refine Below.alloc ?_ (by first | omega | (simp; done) | (simp; omega)) _) | (refine Below.trans ?_ (Below.mono (by assumption) (by first | omega | (simp; done) | (simp; omega))))))⟩; exact ret_s (by unfold oppP; repeat' (first | rfl | omega | (dsimp only; omega) | split | (exfalso; omega))) (by unfold oppP; repeat' (first | rfl | omega | (dsimp only; omega) | split | (exfalso; omega))))
set_option maxHeartbeats 4000000 in
theorem one_any (op : Int) (a : Int × Int) (w : World) (ha : Sp a) : Calls Try.prog 27 #[.int .i64 op, .agg #[.int .i64 a.1, .int .i64 a.2]] w fun e w' => e = .returned (.tuple #[.agg #[.int .i64 ((oneP op a).1).1, .int .i64 ((oneP op a).1).2], .bool (oneP op a).2]) ∧ Below w.heap.size w w' := by
  by_cases q2 : op = 2
  · subst q2
    go_enter Try.func27, Try.ntmps27
    go_wp2
    all_goals (refine bodyPost_ret (by simp [results, Try.results27, go_sem]; try rfl) rfl ⟨?_, (by repeat (first | exact Below.refl _ _ | (refine Below.drew ?_) | (refine below_drewN ?_ _) | (refine Below.setCell ?_ (by first | omega | (simp; done) | (simp; omega)) _) | (refine Below.alloc ?_ (by first | omega | (simp; done) | (simp; omega)) _) | (refine Below.trans ?_ (Below.mono (by assumption) (by first | omega | (simp; done) | (simp; omega))))))⟩; exact ret_sb (by unfold oneP; repeat' (first | rfl | omega | (dsimp only; omega) | split | (exfalso; omega))) (by unfold oneP; repeat' (first | rfl | omega | (dsimp only; omega) | split | (exfalso; omega))) (by unfold oneP; repeat' (first | rfl | omega | (dsimp only; omega) | split | (exfalso; omega))))
  by_cases q3 : op = 3
  · subst q3
    have e : oneP 3 a = (oppP a, true) := by unfold oneP oppP; rw [if_neg (by omega), if_pos rfl]; repeat' (first | rfl | split)
    rw [e]
    go_enter Try.func27, Try.ntmps27
    go_wp2_with (go_at_call 35; refine (opp_any _ _ ha).mono ?_; rintro e wA ⟨rfl, hbA⟩; obtain ⟨hcA, hfA⟩ := bcell hbA; have hzA := hbA.size; simp at hzA)
    all_goals (refine bodyPost_ret (by simp [results, Try.results27, go_sem, *]; try rfl) rfl ⟨?_, (by repeat (first | exact Below.refl _ _ | (refine Below.drew ?_) | (refine below_drewN ?_ _) | (refine Below.setCell ?_ (by first | omega | (simp; done) | (simp; omega)) _) | (refine Below.alloc ?_ (by first | omega | (simp; done) | (simp; omega)) _) | (refine Below.trans ?_ (Below.mono (by assumption) (by first | omega | (simp; done) | (simp; omega))))))⟩; rfl)
  · have e : oneP op a = ((0, 0), false) := by unfold oneP; rw [if_neg q2, if_neg q3]
    rw [e]
    go_enter Try.func27, Try.ntmps27
    go_wp2
    all_goals (refine bodyPost_ret (by simp [results, Try.results27, go_sem]; try rfl) rfl ⟨?_, (by repeat (first | exact Below.refl _ _ | (refine Below.drew ?_) | (refine below_drewN ?_ _) | (refine Below.setCell ?_ (by first | omega | (simp; done) | (simp; omega)) _) | (refine Below.alloc ?_ (by first | omega | (simp; done) | (simp; omega)) _) | (refine Below.trans ?_ (Below.mono (by assumption) (by first | omega | (simp; done) | (simp; omega))))))⟩; rfl)
end Go.Proofs.Ytpegiljajlljkaa
