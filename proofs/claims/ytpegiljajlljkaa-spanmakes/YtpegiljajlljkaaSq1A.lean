import Derived.Test.YtpegiljajlljkaaSi
namespace Go.Proofs.Ytpegiljajlljkaa
open Go.RowKit
set_option maxRecDepth 100000 in
set_option maxHeartbeats 16000000 in
theorem quots_all (a b : Int × Int) (w : World) (_ha : Sp a) (_hb : Sp b) (hA : a.1 = -9223372036854775808 ∧ b.1 ≤ -1 ∧ -1 ≤ b.2) : Calls Try.prog 39 #[.agg #[.int .i64 a.1, .int .i64 a.2], .agg #[.int .i64 b.1, .int .i64 b.2]] w fun e w' => e = .returned (.tuple #[.agg #[.int .i64 ((quotsP a b).1).1, .int .i64 ((quotsP a b).1).2], .bool (quotsP a b).2]) ∧ Below w.heap.size w w' := by
  have HQ : Hid (quotsP a b = ((-9223372036854775808, 9223372036854775807), true)) := by unfold Hid quotsP; rw [if_pos hA]; rfl
  have hL := hA.1
  have hh : hasR b.1 b.2 (-1) = true := by unfold hasR; simp only [Bool.and_eq_true, decide_eq_true_iff]; exact hA.2
  clear hA
  go_enter Try.func39, Try.ntmps39
  go_wp2_with (first | (go_at_call 19; refine (has_any _ _ _ _).mono ?_; rintro e w1 ⟨rfl, o1, rfl⟩) | (go_at_call 17; refine (any_any _).mono ?_; rintro e w1 ⟨rfl, o1, rfl⟩))
  refine bodyPost_ret (by simp [results, Try.results39, go_sem, *]; try rfl) rfl ⟨?_, (by repeat (first | exact Below.refl _ _ | (refine Below.drew ?_) | (refine below_drewN ?_ _) | (refine Below.setCell ?_ (by first | omega | (simp; done) | (simp; omega)) _) | (refine Below.alloc ?_ (by first | omega | (simp; done) | (simp; omega)) _) | (refine Below.trans ?_ (Below.mono (by assumption) (by first | omega | (simp; done) | (simp; omega))))))⟩
  rw [HQ.out]
end Go.Proofs.Ytpegiljajlljkaa
