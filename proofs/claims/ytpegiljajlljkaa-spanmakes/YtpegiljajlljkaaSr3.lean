import Derived.Test.YtpegiljajlljkaaSr1
namespace Go.Proofs.Ytpegiljajlljkaa
open Go.RowKit
set_option maxHeartbeats 8000000 in
theorem remr_any (al ah bl bh : Int) (w : World) (ha : Sp (al, ah)) (hb : Sp (bl, bh)) : Calls Try.prog 50 #[.agg #[.int .i64 al, .int .i64 ah], .agg #[.int .i64 bl, .int .i64 bh]] w fun e w' => e = .returned (.tuple #[.agg #[.int .i64 ((remsP (al, ah) (bl, bh)).1).1, .int .i64 ((remsP (al, ah) (bl, bh)).1).2], .bool (remsP (al, ah) (bl, bh)).2]) ∧ Below w.heap.size w w' := by
  have hbb := hb
  unfold Sp at ha hb
  obtain ⟨a1, a2, a3⟩ := ha
  obtain ⟨b1, b2, b3⟩ := hb
  dsimp only at a1 a2 a3 b1 b2 b3
  by_cases h : bl = 0 ∧ bh = 0
  · obtain ⟨rfl, rfl⟩ := h
    go_enter Try.func50, Try.ntmps50
    go_wp2
    all_goals (refine bodyPost_ret (by simp [results, Try.results50, go_sem]; try rfl) rfl ⟨?_, (by repeat (first | exact Below.refl _ _ | (refine Below.drew ?_) | (refine below_drewN ?_ _) | (refine Below.setCell ?_ (by first | omega | (simp; done) | (simp; omega)) _) | (refine Below.alloc ?_ (by first | omega | (simp; done) | (simp; omega)) _) | (refine Below.trans ?_ (Below.mono (by assumption) (by first | omega | (simp; done) | (simp; omega))))))⟩; exact ret_sb (by unfold remsP; repeat' (first | rfl | omega | (dsimp only; omega) | split | (exfalso; omega))) (by unfold remsP; repeat' (first | rfl | omega | (dsimp only; omega) | split | (exfalso; omega))) (by unfold remsP; repeat' (first | rfl | omega | (dsimp only; omega) | split | (exfalso; omega))))
  · have hf : 0 ≤ farP (bl, bh) ∧ farP (bl, bh) ≤ 9223372036854775807 := by unfold farP; dsimp only; omega
    have HR : Hid (remsP (al, ah) (bl, bh) = ((max (min al 0) (-(farP (bl, bh))), min (max ah 0) (farP (bl, bh))), true)) := by unfold Hid remsP; rw [if_neg h]
    have hfa : ∀ w : World, Calls Try.prog 61 #[.agg #[.int .i64 bl, .int .i64 bh]] w fun e w' => e = .returned (.int .i64 (farP (bl, bh))) ∧ New1 w w' := fun w => farr_any (bl, bh) w hbb
    generalize farP (bl, bh) = m at *
    obtain ⟨m1, m2⟩ := hf
    clear hbb
    by_cases h0 : bl = 0
    · subst h0
      have h0 : ¬ bh = 0 := fun e => h ⟨rfl, e⟩
      clear h
      by_cases c1 : al < 0 <;> by_cases c2 : 0 < ah <;>
      · go_enter Try.func50, Try.ntmps50
        go_wp2_with (go_at_call 61; refine (hfa _).mono ?_; rintro e w1 ⟨rfl, o1, rfl⟩)
        all_goals (refine bodyPost_ret (by simp [results, Try.results50, go_sem]; try rfl) rfl ⟨?_, (by repeat (first | exact Below.refl _ _ | (refine Below.drew ?_) | (refine below_drewN ?_ _) | (refine Below.setCell ?_ (by first | omega | (simp; done) | (simp; omega)) _) | (refine Below.alloc ?_ (by first | omega | (simp; done) | (simp; omega)) _) | (refine Below.trans ?_ (Below.mono (by assumption) (by first | omega | (simp; done) | (simp; omega))))))⟩; rw [HR.out]; exact ret_sb (by dsimp only; omega) (by dsimp only; omega) rfl)
    · clear h
      by_cases c1 : al < 0 <;> by_cases c2 : 0 < ah <;>
      · go_enter Try.func50, Try.ntmps50
        go_wp2_with (go_at_call 61; refine (hfa _).mono ?_; rintro e w1 ⟨rfl, o1, rfl⟩)
        all_goals (refine bodyPost_ret (by simp [results, Try.results50, go_sem]; try rfl) rfl ⟨?_, (by repeat (first | exact Below.refl _ _ | (refine Below.drew ?_) | (refine below_drewN ?_ _) | (refine Below.setCell ?_ (by first | omega | (simp; done) | (simp; omega)) _) | (refine Below.alloc ?_ (by first | omega | (simp; done) | (simp; omega)) _) | (refine Below.trans ?_ (Below.mono (by assumption) (by first | omega | (simp; done) | (simp; omega))))))⟩; rw [HR.out]; exact ret_sb (by dsimp only; omega) (by dsimp only; omega) rfl)
set_option maxHeartbeats 8000000 in
theorem branchr_no (al ah : Int) (w : World) : Calls Try.prog 32 #[.agg #[.int .i64 al, .int .i64 ah], .bool false] w fun e w' => e = .returned (.tuple #[.agg #[.int .i64 ((brF (al, ah)).1).1, .int .i64 ((brF (al, ah)).1).2], .bool (brF (al, ah)).2]) ∧ Below w.heap.size w w' := by
  by_cases h : al ≤ 0 ∧ 0 ≤ ah
  · have HE : Hid (brF (al, ah) = ((0, 0), true)) := by unfold Hid brF; rw [if_pos h]
    have hh : hasR al ah 0 = true := by unfold hasR; rw [Bool.and_eq_true, decide_eq_true_iff, decide_eq_true_iff]; exact h
    clear h
    go_enter Try.func32, Try.ntmps32
    go_wp2_with (go_at_call 20; refine (hasr_any _ _ _ _).mono ?_; rintro e w1 ⟨rfl, o1, rfl⟩)
    all_goals (refine bodyPost_ret (by simp [results, Try.results32, go_sem]; try rfl) rfl ⟨?_, (by repeat (first | exact Below.refl _ _ | (refine Below.drew ?_) | (refine below_drewN ?_ _) | (refine Below.setCell ?_ (by first | omega | (simp; done) | (simp; omega)) _) | (refine Below.alloc ?_ (by first | omega | (simp; done) | (simp; omega)) _) | (refine Below.trans ?_ (Below.mono (by assumption) (by first | omega | (simp; done) | (simp; omega))))))⟩; rw [HE.out])
  · have HE : Hid (brF (al, ah) = ((0, 0), false)) := by unfold Hid brF; rw [if_neg h]
    have hh : hasR al ah 0 = false := by unfold hasR; rw [Bool.and_eq_false_iff, decide_eq_false_iff_not, decide_eq_false_iff_not]; omega
    clear h
    go_enter Try.func32, Try.ntmps32
    go_wp2_with (go_at_call 20; refine (hasr_any _ _ _ _).mono ?_; rintro e w1 ⟨rfl, o1, rfl⟩)
    all_goals (refine bodyPost_ret (by simp [results, Try.results32, go_sem]; try rfl) rfl ⟨?_, (by repeat (first | exact Below.refl _ _ | (refine Below.drew ?_) | (refine below_drewN ?_ _) | (refine Below.setCell ?_ (by first | omega | (simp; done) | (simp; omega)) _) | (refine Below.alloc ?_ (by first | omega | (simp; done) | (simp; omega)) _) | (refine Below.trans ?_ (Below.mono (by assumption) (by first | omega | (simp; done) | (simp; omega))))))⟩; rw [HE.out])
set_option maxHeartbeats 8000000 in
theorem branchr_yes (al ah : Int) (w : World) : Calls Try.prog 32 #[.agg #[.int .i64 al, .int .i64 ah], .bool true] w fun e w' => e = .returned (.tuple #[.agg #[.int .i64 ((brT (al, ah)).1).1, .int .i64 ((brT (al, ah)).1).2], .bool (brT (al, ah)).2]) ∧ Below w.heap.size w w' := by
  by_cases h1 : al = 0
  · subst h1
    by_cases h2 : ah = 0
    · subst h2
      go_enter Try.func32, Try.ntmps32
      go_wp2
      all_goals (refine bodyPost_ret (by simp [results, Try.results32, go_sem]; try rfl) rfl ⟨?_, (by repeat (first | exact Below.refl _ _ | (refine Below.drew ?_) | (refine below_drewN ?_ _) | (refine Below.setCell ?_ (by first | omega | (simp; done) | (simp; omega)) _) | (refine Below.alloc ?_ (by first | omega | (simp; done) | (simp; omega)) _) | (refine Below.trans ?_ (Below.mono (by assumption) (by first | omega | (simp; done) | (simp; omega))))))⟩; exact ret_sb (by unfold brT; repeat' (first | rfl | omega | (dsimp only; omega) | split | (exfalso; omega))) (by unfold brT; repeat' (first | rfl | omega | (dsimp only; omega) | split | (exfalso; omega))) (by unfold brT; repeat' (first | rfl | omega | (dsimp only; omega) | split | (exfalso; omega))))
    · have c2 : (ah == 0) = false := by rw [beq_eq_false_iff_ne]; exact h2
      go_enter Try.func32, Try.ntmps32
      go_wp2
      all_goals (refine bodyPost_ret (by simp [results, Try.results32, go_sem]; try rfl) rfl ⟨?_, (by repeat (first | exact Below.refl _ _ | (refine Below.drew ?_) | (refine below_drewN ?_ _) | (refine Below.setCell ?_ (by first | omega | (simp; done) | (simp; omega)) _) | (refine Below.alloc ?_ (by first | omega | (simp; done) | (simp; omega)) _) | (refine Below.trans ?_ (Below.mono (by assumption) (by first | omega | (simp; done) | (simp; omega))))))⟩; exact ret_sb (by unfold brT; repeat' (first | rfl | omega | (dsimp only; omega) | split | (exfalso; omega))) (by unfold brT; repeat' (first | rfl | omega | (dsimp only; omega) | split | (exfalso; omega))) (by unfold brT; repeat' (first | rfl | omega | (dsimp only; omega) | split | (exfalso; omega))))
  · have c1 : (al == 0) = false := by rw [beq_eq_false_iff_ne]; exact h1
    by_cases h2 : ah = 0
    · subst h2
      go_enter Try.func32, Try.ntmps32
      go_wp2
      all_goals (refine bodyPost_ret (by simp [results, Try.results32, go_sem]; try rfl) rfl ⟨?_, (by repeat (first | exact Below.refl _ _ | (refine Below.drew ?_) | (refine below_drewN ?_ _) | (refine Below.setCell ?_ (by first | omega | (simp; done) | (simp; omega)) _) | (refine Below.alloc ?_ (by first | omega | (simp; done) | (simp; omega)) _) | (refine Below.trans ?_ (Below.mono (by assumption) (by first | omega | (simp; done) | (simp; omega))))))⟩; exact ret_sb (by unfold brT; repeat' (first | rfl | omega | (dsimp only; omega) | split | (exfalso; omega))) (by unfold brT; repeat' (first | rfl | omega | (dsimp only; omega) | split | (exfalso; omega))) (by unfold brT; repeat' (first | rfl | omega | (dsimp only; omega) | split | (exfalso; omega))))
    · have c2 : (ah == 0) = false := by rw [beq_eq_false_iff_ne]; exact h2
      go_enter Try.func32, Try.ntmps32
      go_wp2
      all_goals (refine bodyPost_ret (by simp [results, Try.results32, go_sem]; try rfl) rfl ⟨?_, (by repeat (first | exact Below.refl _ _ | (refine Below.drew ?_) | (refine below_drewN ?_ _) | (refine Below.setCell ?_ (by first | omega | (simp; done) | (simp; omega)) _) | (refine Below.alloc ?_ (by first | omega | (simp; done) | (simp; omega)) _) | (refine Below.trans ?_ (Below.mono (by assumption) (by first | omega | (simp; done) | (simp; omega))))))⟩; exact ret_sb (by unfold brT; repeat' (first | rfl | omega | (dsimp only; omega) | split | (exfalso; omega))) (by unfold brT; repeat' (first | rfl | omega | (dsimp only; omega) | split | (exfalso; omega))) (by unfold brT; repeat' (first | rfl | omega | (dsimp only; omega) | split | (exfalso; omega))))
theorem branchr_any (a : Int × Int) (yes : Bool) (w : World) : Calls Try.prog 32 #[.agg #[.int .i64 a.1, .int .i64 a.2], .bool yes] w fun e w' => e = .returned (.tuple #[.agg #[.int .i64 ((branchP a yes).1).1, .int .i64 ((branchP a yes).1).2], .bool (branchP a yes).2]) ∧ Below w.heap.size w w' := by
  cases yes
  · exact branchr_no a.1 a.2 w
  · exact branchr_yes a.1 a.2 w
end Go.Proofs.Ytpegiljajlljkaa
