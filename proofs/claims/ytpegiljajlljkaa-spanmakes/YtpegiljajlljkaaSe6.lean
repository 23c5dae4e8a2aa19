import Derived.Test.YtpegiljajlljkaaSe2
namespace Go.Proofs.Ytpegiljajlljkaa
open Go.RowKit
set_option maxHeartbeats 4000000 in
theorem rems_any (al ah bl bh : Int) (w : World) (ha : Sp (al, ah)) (hb : Sp (bl, bh)) : Calls Try.prog 40 #[.agg #[.int .i64 al, .int .i64 ah], .agg #[.int .i64 bl, .int .i64 bh]] w fun e w' => e = .returned (.tuple #[.agg #[.int .i64 ((remsP (al, ah) (bl, bh)).1).1, .int .i64 ((remsP (al, ah) (bl, bh)).1).2], .bool (remsP (al, ah) (bl, bh)).2]) ∧ Below w.heap.size w w' := by
  have hbb := hb
  unfold Sp at ha hb
  obtain ⟨a1, a2, a3⟩ := ha
  obtain ⟨b1, b2, b3⟩ := hb
  dsimp only at a1 a2 a3 b1 b2 b3
  by_cases h : bl = 0 ∧ bh = 0
  · obtain ⟨rfl, rfl⟩ := h
    go_enter Try.func40, Try.ntmps40
    go_wp2_with fail
    go_region_with ((go_at_call 16; refine (of_any _ _).mono ?_; rintro e w1 ⟨rfl, o1, rfl⟩))
    all_goals go_wp2
    all_goals (refine bodyPost_ret (by simp [results, Try.results40, go_sem]; try rfl) rfl ⟨?_, (by repeat (first | exact Below.refl _ _ | (refine Below.drew ?_) | (refine below_drewN ?_ _) | (refine Below.setCell ?_ (by first | omega | (simp; done) | (simp; omega)) _) | (refine Below.alloc ?_ (by first | omega | (simp; done) | (simp; omega)) _) | (refine Below.trans ?_ (Below.mono (by assumption) (by first | omega | (simp; done) | (simp; omega))))))⟩; exact ret_sb (by unfold remsP; repeat' (first | rfl | omega | (dsimp only; omega) | split | (exfalso; omega))) (by unfold remsP; repeat' (first | rfl | omega | (dsimp only; omega) | split | (exfalso; omega))) (by unfold remsP; repeat' (first | rfl | omega | (dsimp only; omega) | split | (exfalso; omega))))
  · have hf : 0 ≤ farP (bl, bh) ∧ farP (bl, bh) ≤ 9223372036854775807 := by unfold farP; dsimp only; omega
    have HR : Hid (remsP (al, ah) (bl, bh) = ((max (min al 0) (-(farP (bl, bh))), min (max ah 0) (farP (bl, bh))), true)) := by unfold Hid remsP; rw [if_neg h]
    have hfa : ∀ w : World, Calls Try.prog 59 #[.agg #[.int .i64 bl, .int .i64 bh]] w fun e w' => e = .returned (.int .i64 (farP (bl, bh))) ∧ New1 w w' := fun w => far_any (bl, bh) w hbb
    generalize farP (bl, bh) = m at *
    obtain ⟨m1, m2⟩ := hf
    clear hbb
    by_cases h0 : bl = 0
    · subst h0
      have h0 : ¬ bh = 0 := fun e => h ⟨rfl, e⟩
      clear h
      go_enter Try.func40, Try.ntmps40
      go_wp2_with fail
      go_region_with ((go_at_call 16; refine (of_any _ _).mono ?_; rintro e w1 ⟨rfl, o1, rfl⟩))
      all_goals go_wp2_with (go_at_call 59; refine (hfa _).mono ?_; rintro e w1 ⟨rfl, o1, rfl⟩)
      all_goals (refine bodyPost_ret (by simp [results, Try.results40, go_sem]; try rfl) rfl ⟨?_, (by repeat (first | exact Below.refl _ _ | (refine Below.drew ?_) | (refine below_drewN ?_ _) | (refine Below.setCell ?_ (by first | omega | (simp; done) | (simp; omega)) _) | (refine Below.alloc ?_ (by first | omega | (simp; done) | (simp; omega)) _) | (refine Below.trans ?_ (Below.mono (by assumption) (by first | omega | (simp; done) | (simp; omega))))))⟩; rw [HR.out]; exact ret_sb (by dsimp only; omega) (by dsimp only; omega) rfl)
    · clear h
      go_enter Try.func40, Try.ntmps40
      go_wp2_with fail
      go_region_with ((go_at_call 16; refine (of_any _ _).mono ?_; rintro e w1 ⟨rfl, o1, rfl⟩))
      all_goals go_wp2_with (go_at_call 59; refine (hfa _).mono ?_; rintro e w1 ⟨rfl, o1, rfl⟩)
      all_goals (refine bodyPost_ret (by simp [results, Try.results40, go_sem]; try rfl) rfl ⟨?_, (by repeat (first | exact Below.refl _ _ | (refine Below.drew ?_) | (refine below_drewN ?_ _) | (refine Below.setCell ?_ (by first | omega | (simp; done) | (simp; omega)) _) | (refine Below.alloc ?_ (by first | omega | (simp; done) | (simp; omega)) _) | (refine Below.trans ?_ (Below.mono (by assumption) (by first | omega | (simp; done) | (simp; omega))))))⟩; rw [HR.out]; exact ret_sb (by dsimp only; omega) (by dsimp only; omega) rfl)
set_option maxHeartbeats 4000000 in
theorem branch_no (al ah : Int) (w : World) : Calls Try.prog 31 #[.agg #[.int .i64 al, .int .i64 ah], .bool false] w fun e w' => e = .returned (.tuple #[.agg #[.int .i64 ((brF (al, ah)).1).1, .int .i64 ((brF (al, ah)).1).2], .bool (brF (al, ah)).2]) ∧ Below w.heap.size w w' := by
  have e : meetP (al, ah) (0, 0) = brF (al, ah) := by
    unfold meetP brF
    dsimp only
    by_cases h : al ≤ 0 ∧ 0 ≤ ah
    · rw [if_pos (by omega), if_pos h]
      simp only [Prod.mk.injEq, and_true]
      omega
    · rw [if_neg (by omega), if_neg h]
  rw [← e]
  have hme : ∀ w : World, Calls Try.prog 12 #[.agg #[.int .i64 al, .int .i64 ah], .agg #[.int .i64 0, .int .i64 0]] w fun e w' => e = .returned (.tuple #[.agg #[.int .i64 ((meetP (al, ah) (0, 0)).1).1, .int .i64 ((meetP (al, ah) (0, 0)).1).2], .bool (meetP (al, ah) (0, 0)).2]) ∧ New5 w w' := fun w => meet_any (al, ah) (0, 0) w
  clear e
  generalize meetP (al, ah) (0, 0) = r at *
  go_enter Try.func31, Try.ntmps31
  go_wp2_with fail
  go_region_with (first | (go_at_call 16; refine (of_any _ _).mono ?_; rintro e w1 ⟨rfl, o1, rfl⟩) | (go_at_call 12; refine (hme _).mono ?_; rintro e w1 ⟨rfl, o1, o2, o3, o4, o5, rfl⟩))
  all_goals go_wp2
  all_goals (refine bodyPost_ret (by simp [results, Try.results31, go_sem]; try rfl) rfl ⟨?_, (by repeat (first | exact Below.refl _ _ | (refine Below.drew ?_) | (refine below_drewN ?_ _) | (refine Below.setCell ?_ (by first | omega | (simp; done) | (simp; omega)) _) | (refine Below.alloc ?_ (by first | omega | (simp; done) | (simp; omega)) _) | (refine Below.trans ?_ (Below.mono (by assumption) (by first | omega | (simp; done) | (simp; omega))))))⟩; rfl)
set_option maxHeartbeats 4000000 in
theorem branch_yes (al ah : Int) (w : World) : Calls Try.prog 31 #[.agg #[.int .i64 al, .int .i64 ah], .bool true] w fun e w' => e = .returned (.tuple #[.agg #[.int .i64 ((brT (al, ah)).1).1, .int .i64 ((brT (al, ah)).1).2], .bool (brT (al, ah)).2]) ∧ Below w.heap.size w w' := by
  by_cases h1 : al = 0
  · subst h1
    by_cases h2 : ah = 0
    · subst h2
      go_enter Try.func31, Try.ntmps31
      go_wp2_with fail
      go_region_with ((go_at_call 16; refine (of_any _ _).mono ?_; rintro e w1 ⟨rfl, o1, rfl⟩))
      all_goals go_wp2
      all_goals (refine bodyPost_ret (by simp [results, Try.results31, go_sem]; try rfl) rfl ⟨?_, (by repeat (first | exact Below.refl _ _ | (refine Below.drew ?_) | (refine below_drewN ?_ _) | (refine Below.setCell ?_ (by first | omega | (simp; done) | (simp; omega)) _) | (refine Below.alloc ?_ (by first | omega | (simp; done) | (simp; omega)) _) | (refine Below.trans ?_ (Below.mono (by assumption) (by first | omega | (simp; done) | (simp; omega))))))⟩; exact ret_sb (by unfold brT; repeat' (first | rfl | omega | (dsimp only; omega) | split | (exfalso; omega))) (by unfold brT; repeat' (first | rfl | omega | (dsimp only; omega) | split | (exfalso; omega))) (by unfold brT; repeat' (first | rfl | omega | (dsimp only; omega) | split | (exfalso; omega))))
    · go_enter Try.func31, Try.ntmps31
      go_wp2_with fail
      go_region_with ((go_at_call 16; refine (of_any _ _).mono ?_; rintro e w1 ⟨rfl, o1, rfl⟩))
      all_goals go_wp2
      all_goals (refine bodyPost_ret (by simp [results, Try.results31, go_sem]; try rfl) rfl ⟨?_, (by repeat (first | exact Below.refl _ _ | (refine Below.drew ?_) | (refine below_drewN ?_ _) | (refine Below.setCell ?_ (by first | omega | (simp; done) | (simp; omega)) _) | (refine Below.alloc ?_ (by first | omega | (simp; done) | (simp; omega)) _) | (refine Below.trans ?_ (Below.mono (by assumption) (by first | omega | (simp; done) | (simp; omega))))))⟩; exact ret_sb (by unfold brT; repeat' (first | rfl | omega | (dsimp only; omega) | split | (exfalso; omega))) (by unfold brT; repeat' (first | rfl | omega | (dsimp only; omega) | split | (exfalso; omega))) (by unfold brT; repeat' (first | rfl | omega | (dsimp only; omega) | split | (exfalso; omega))))
  · by_cases h2 : ah = 0
    · subst h2
      go_enter Try.func31, Try.ntmps31
      go_wp2_with fail
      go_region_with ((go_at_call 16; refine (of_any _ _).mono ?_; rintro e w1 ⟨rfl, o1, rfl⟩))
      all_goals go_wp2
      all_goals (refine bodyPost_ret (by simp [results, Try.results31, go_sem]; try rfl) rfl ⟨?_, (by repeat (first | exact Below.refl _ _ | (refine Below.drew ?_) | (refine below_drewN ?_ _) | (refine Below.setCell ?_ (by first | omega | (simp; done) | (simp; omega)) _) | (refine Below.alloc ?_ (by first | omega | (simp; done) | (simp; omega)) _) | (refine Below.trans ?_ (Below.mono (by assumption) (by first | omega | (simp; done) | (simp; omega))))))⟩; exact ret_sb (by unfold brT; repeat' (first | rfl | omega | (dsimp only; omega) | split | (exfalso; omega))) (by unfold brT; repeat' (first | rfl | omega | (dsimp only; omega) | split | (exfalso; omega))) (by unfold brT; repeat' (first | rfl | omega | (dsimp only; omega) | split | (exfalso; omega))))
    · go_enter Try.func31, Try.ntmps31
      go_wp2_with fail
      go_region_with ((go_at_call 16; refine (of_any _ _).mono ?_; rintro e w1 ⟨rfl, o1, rfl⟩))
      all_goals go_wp2
      all_goals (refine bodyPost_ret (by simp [results, Try.results31, go_sem]; try rfl) rfl ⟨?_, (by repeat (first | exact Below.refl _ _ | (refine Below.drew ?_) | (refine below_drewN ?_ _) | (refine Below.setCell ?_ (by first | omega | (simp; done) | (simp; omega)) _) | (refine Below.alloc ?_ (by first | omega | (simp; done) | (simp; omega)) _) | (refine Below.trans ?_ (Below.mono (by assumption) (by first | omega | (simp; done) | (simp; omega))))))⟩; exact ret_sb (by unfold brT; repeat' (first | rfl | omega | (dsimp only; omega) | split | (exfalso; omega))) (by unfold brT; repeat' (first | rfl | omega | (dsimp only; omega) | split | (exfalso; omega))) (by unfold brT; repeat' (first | rfl | omega | (dsimp only; omega) | split | (exfalso; omega))))
theorem branch_any (a : Int × Int) (yes : Bool) (w : World) : Calls Try.prog 31 #[.agg #[.int .i64 a.1, .int .i64 a.2], .bool yes] w fun e w' => e = .returned (.tuple #[.agg #[.int .i64 ((branchP a yes).1).1, .int .i64 ((branchP a yes).1).2], .bool (branchP a yes).2]) ∧ Below w.heap.size w w' := by
  cases yes
  · exact branch_no a.1 a.2 w
  · exact branch_yes a.1 a.2 w
end Go.Proofs.Ytpegiljajlljkaa
