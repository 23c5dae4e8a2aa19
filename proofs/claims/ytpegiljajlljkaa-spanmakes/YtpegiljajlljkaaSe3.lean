import Derived.Test.YtpegiljajlljkaaSe
namespace Go.Proofs.Ytpegiljajlljkaa
open Go.RowKit
set_option maxHeartbeats 4000000 in
theorem sums_any (a b : Int × Int) (w : World) (ha : Sp a) (hb : Sp b) : Calls Try.prog 36 #[.agg #[.int .i64 a.1, .int .i64 a.2], .agg #[.int .i64 b.1, .int .i64 b.2]] w fun e w' => e = .returned (.agg #[.int .i64 (sumsP a b).1, .int .i64 (sumsP a b).2]) ∧ Below w.heap.size w w' := by
  have i1 : i64 a.1 := by unfold Sp at ha; unfold i64; omega
  have i2 : i64 a.2 := by unfold Sp at ha; unfold i64; omega
  have i3 : i64 b.1 := by unfold Sp at hb; unfold i64; omega
  have i4 : i64 b.2 := by unfold Sp at hb; unfold i64; omega
  by_cases f1 : fit (a.1 + b.1) = true
  · have g1 := (fit_iff _).1 f1
    have e1 := wrap_fit _ g1.1 g1.2
    by_cases f2 : fit (a.2 + b.2) = true
    · have g2 := (fit_iff _).1 f2
      have e2 := wrap_fit _ g2.1 g2.2
      go_enter Try.func36, Try.ntmps36
      go_wp2_with (first | (go_at_call 53; refine (sum_any _ _ _ (by assumption) (by assumption)).mono ?_; rintro e w1 ⟨rfl, rfl⟩) | (go_at_call 17; refine (any_any _).mono ?_; rintro e w1 ⟨rfl, o1, rfl⟩))
      all_goals (refine bodyPost_ret (by simp [results, Try.results36, go_sem]; try rfl) rfl ⟨?_, (by repeat (first | exact Below.refl _ _ | (refine Below.drew ?_) | (refine below_drewN ?_ _) | (refine Below.setCell ?_ (by first | omega | (simp; done) | (simp; omega)) _) | (refine Below.alloc ?_ (by first | omega | (simp; done) | (simp; omega)) _) | (refine Below.trans ?_ (Below.mono (by assumption) (by first | omega | (simp; done) | (simp; omega))))))⟩; exact ret_s (by unfold sumsP; rw [f1, f2]; rfl) (by unfold sumsP; rw [f1, f2]; rfl))
    · have f2 : fit (a.2 + b.2) = false := by simpa using f2
      go_enter Try.func36, Try.ntmps36
      go_wp2_with (first | (go_at_call 53; refine (sum_any _ _ _ (by assumption) (by assumption)).mono ?_; rintro e w1 ⟨rfl, rfl⟩) | (go_at_call 17; refine (any_any _).mono ?_; rintro e w1 ⟨rfl, o1, rfl⟩))
      all_goals (refine bodyPost_ret (by simp [results, Try.results36, go_sem]; try rfl) rfl ⟨?_, (by repeat (first | exact Below.refl _ _ | (refine Below.drew ?_) | (refine below_drewN ?_ _) | (refine Below.setCell ?_ (by first | omega | (simp; done) | (simp; omega)) _) | (refine Below.alloc ?_ (by first | omega | (simp; done) | (simp; omega)) _) | (refine Below.trans ?_ (Below.mono (by assumption) (by first | omega | (simp; done) | (simp; omega))))))⟩; exact ret_s (by unfold sumsP; rw [f1, f2]; rfl) (by unfold sumsP; rw [f1, f2]; rfl))
  · have f1 : fit (a.1 + b.1) = false := by simpa using f1
    go_enter Try.func36, Try.ntmps36
    go_wp2_with (first | (go_at_call 53; refine (sum_any _ _ _ (by assumption) (by assumption)).mono ?_; rintro e w1 ⟨rfl, rfl⟩) | (go_at_call 17; refine (any_any _).mono ?_; rintro e w1 ⟨rfl, o1, rfl⟩))
    all_goals (refine bodyPost_ret (by simp [results, Try.results36, go_sem]; try rfl) rfl ⟨?_, (by repeat (first | exact Below.refl _ _ | (refine Below.drew ?_) | (refine below_drewN ?_ _) | (refine Below.setCell ?_ (by first | omega | (simp; done) | (simp; omega)) _) | (refine Below.alloc ?_ (by first | omega | (simp; done) | (simp; omega)) _) | (refine Below.trans ?_ (Below.mono (by assumption) (by first | omega | (simp; done) | (simp; omega))))))⟩; exact ret_s (by unfold sumsP; rw [f1]; rfl) (by unfold sumsP; rw [f1]; rfl))
set_option maxHeartbeats 4000000 in
theorem differences_any (a b : Int × Int) (w : World) (ha : Sp a) (hb : Sp b) : Calls Try.prog 37 #[.agg #[.int .i64 a.1, .int .i64 a.2], .agg #[.int .i64 b.1, .int .i64 b.2]] w fun e w' => e = .returned (.agg #[.int .i64 (diffsP a b).1, .int .i64 (diffsP a b).2]) ∧ Below w.heap.size w w' := by
  have i1 : i64 a.1 := by unfold Sp at ha; unfold i64; omega
  have i2 : i64 a.2 := by unfold Sp at ha; unfold i64; omega
  have i3 : i64 b.1 := by unfold Sp at hb; unfold i64; omega
  have i4 : i64 b.2 := by unfold Sp at hb; unfold i64; omega
  by_cases f1 : fit (a.1 - b.2) = true
  · have g1 := (fit_iff _).1 f1
    have e1 := wrap_fit _ g1.1 g1.2
    by_cases f2 : fit (a.2 - b.1) = true
    · have g2 := (fit_iff _).1 f2
      have e2 := wrap_fit _ g2.1 g2.2
      go_enter Try.func37, Try.ntmps37
      go_wp2_with (first | (go_at_call 54; refine (difference_any _ _ _ (by assumption) (by assumption)).mono ?_; rintro e w1 ⟨rfl, rfl⟩) | (go_at_call 17; refine (any_any _).mono ?_; rintro e w1 ⟨rfl, o1, rfl⟩))
      all_goals (refine bodyPost_ret (by simp [results, Try.results37, go_sem]; try rfl) rfl ⟨?_, (by repeat (first | exact Below.refl _ _ | (refine Below.drew ?_) | (refine below_drewN ?_ _) | (refine Below.setCell ?_ (by first | omega | (simp; done) | (simp; omega)) _) | (refine Below.alloc ?_ (by first | omega | (simp; done) | (simp; omega)) _) | (refine Below.trans ?_ (Below.mono (by assumption) (by first | omega | (simp; done) | (simp; omega))))))⟩; exact ret_s (by unfold diffsP; rw [f1, f2]; rfl) (by unfold diffsP; rw [f1, f2]; rfl))
    · have f2 : fit (a.2 - b.1) = false := by simpa using f2
      go_enter Try.func37, Try.ntmps37
      go_wp2_with (first | (go_at_call 54; refine (difference_any _ _ _ (by assumption) (by assumption)).mono ?_; rintro e w1 ⟨rfl, rfl⟩) | (go_at_call 17; refine (any_any _).mono ?_; rintro e w1 ⟨rfl, o1, rfl⟩))
      all_goals (refine bodyPost_ret (by simp [results, Try.results37, go_sem]; try rfl) rfl ⟨?_, (by repeat (first | exact Below.refl _ _ | (refine Below.drew ?_) | (refine below_drewN ?_ _) | (refine Below.setCell ?_ (by first | omega | (simp; done) | (simp; omega)) _) | (refine Below.alloc ?_ (by first | omega | (simp; done) | (simp; omega)) _) | (refine Below.trans ?_ (Below.mono (by assumption) (by first | omega | (simp; done) | (simp; omega))))))⟩; exact ret_s (by unfold diffsP; rw [f1, f2]; rfl) (by unfold diffsP; rw [f1, f2]; rfl))
  · have f1 : fit (a.1 - b.2) = false := by simpa using f1
    go_enter Try.func37, Try.ntmps37
    go_wp2_with (first | (go_at_call 54; refine (difference_any _ _ _ (by assumption) (by assumption)).mono ?_; rintro e w1 ⟨rfl, rfl⟩) | (go_at_call 17; refine (any_any _).mono ?_; rintro e w1 ⟨rfl, o1, rfl⟩))
    all_goals (refine bodyPost_ret (by simp [results, Try.results37, go_sem]; try rfl) rfl ⟨?_, (by repeat (first | exact Below.refl _ _ | (refine Below.drew ?_) | (refine below_drewN ?_ _) | (refine Below.setCell ?_ (by first | omega | (simp; done) | (simp; omega)) _) | (refine Below.alloc ?_ (by first | omega | (simp; done) | (simp; omega)) _) | (refine Below.trans ?_ (Below.mono (by assumption) (by first | omega | (simp; done) | (simp; omega))))))⟩; exact ret_s (by unfold diffsP; rw [f1]; rfl) (by unfold diffsP; rw [f1]; rfl))
end Go.Proofs.Ytpegiljajlljkaa
