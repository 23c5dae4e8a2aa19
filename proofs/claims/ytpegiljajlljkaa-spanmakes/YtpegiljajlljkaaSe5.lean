import Derived.Test.YtpegiljajlljkaaSe
namespace Go.Proofs.Ytpegiljajlljkaa
open Go.RowKit
set_option maxHeartbeats 4000000 in
theorem sames_any (al ah bl bh : Int) (w : World) (ha : Sp (al, ah)) (hb : Sp (bl, bh)) : Calls Try.prog 44 #[.agg #[.int .i64 al, .int .i64 ah], .agg #[.int .i64 bl, .int .i64 bh]] w fun e w' => e = .returned (.agg #[.int .i64 (sameP (al, ah) (bl, bh)).1, .int .i64 (sameP (al, ah) (bl, bh)).2]) ∧ Below w.heap.size w w' := by
  unfold Sp at ha hb
  obtain ⟨a1, a2, a3⟩ := ha
  obtain ⟨b1, b2, b3⟩ := hb
  dsimp only at a1 a2 a3 b1 b2 b3
  by_cases h1 : ah < bl ∨ bh < al
  · have hm : meetP (al, ah) (bl, bh) = ((0, 0), false) := by unfold meetP; rw [if_neg (by dsimp only; omega)]
    have HS : Hid (sameP (al, ah) (bl, bh) = (0, 0)) := by unfold Hid sameP; rw [if_pos h1]
    clear h1
    go_enter Try.func44, Try.ntmps44
    go_wp2_with (first | (go_at_call 16; refine (of_any _ _).mono ?_; rintro e w1 ⟨rfl, o1, rfl⟩) | (go_at_call 12; refine (meet_any (al, ah) (bl, bh) _).mono ?_; rintro e w1 ⟨rfl, o1, o2, o3, o4, o5, rfl⟩))
    all_goals (refine bodyPost_ret (by simp [results, Try.results44, go_sem]; try rfl) rfl ⟨?_, (by repeat (first | exact Below.refl _ _ | (refine Below.drew ?_) | (refine below_drewN ?_ _) | (refine Below.setCell ?_ (by first | omega | (simp; done) | (simp; omega)) _) | (refine Below.alloc ?_ (by first | omega | (simp; done) | (simp; omega)) _) | (refine Below.trans ?_ (Below.mono (by assumption) (by first | omega | (simp; done) | (simp; omega))))))⟩; rw [HS.out])
  · have hm : (meetP (al, ah) (bl, bh)).2 = true := by unfold meetP; rw [if_pos (by dsimp only; omega)]
    by_cases h2 : al = bl
    · subst h2
      by_cases h3 : ah = bh
      · subst h3
        by_cases h4 : al = ah
        · subst h4
          go_enter Try.func44, Try.ntmps44
          go_wp2_with (first | (go_at_call 16; refine (of_any _ _).mono ?_; rintro e w1 ⟨rfl, o1, rfl⟩) | (go_at_call 12; refine (meet_any (al, al) (al, al) _).mono ?_; rintro e w1 ⟨rfl, o1, o2, o3, o4, o5, rfl⟩))
          all_goals (refine bodyPost_ret (by simp [results, Try.results44, go_sem]; try rfl) rfl ⟨?_, (by repeat (first | exact Below.refl _ _ | (refine Below.drew ?_) | (refine below_drewN ?_ _) | (refine Below.setCell ?_ (by first | omega | (simp; done) | (simp; omega)) _) | (refine Below.alloc ?_ (by first | omega | (simp; done) | (simp; omega)) _) | (refine Below.trans ?_ (Below.mono (by assumption) (by first | omega | (simp; done) | (simp; omega))))))⟩; exact ret_s (by unfold sameP; repeat' (first | rfl | omega | (dsimp only; omega) | split | (exfalso; omega))) (by unfold sameP; repeat' (first | rfl | omega | (dsimp only; omega) | split | (exfalso; omega))))
        · go_enter Try.func44, Try.ntmps44
          go_wp2_with (first | (go_at_call 16; refine (of_any _ _).mono ?_; rintro e w1 ⟨rfl, o1, rfl⟩) | (go_at_call 12; refine (meet_any (al, ah) (al, ah) _).mono ?_; rintro e w1 ⟨rfl, o1, o2, o3, o4, o5, rfl⟩))
          all_goals (refine bodyPost_ret (by simp [results, Try.results44, go_sem]; try rfl) rfl ⟨?_, (by repeat (first | exact Below.refl _ _ | (refine Below.drew ?_) | (refine below_drewN ?_ _) | (refine Below.setCell ?_ (by first | omega | (simp; done) | (simp; omega)) _) | (refine Below.alloc ?_ (by first | omega | (simp; done) | (simp; omega)) _) | (refine Below.trans ?_ (Below.mono (by assumption) (by first | omega | (simp; done) | (simp; omega))))))⟩; exact ret_s (by unfold sameP; repeat' (first | rfl | omega | (dsimp only; omega) | split | (exfalso; omega))) (by unfold sameP; repeat' (first | rfl | omega | (dsimp only; omega) | split | (exfalso; omega))))
      · go_enter Try.func44, Try.ntmps44
        go_wp2_with (first | (go_at_call 16; refine (of_any _ _).mono ?_; rintro e w1 ⟨rfl, o1, rfl⟩) | (go_at_call 12; refine (meet_any (al, ah) (al, bh) _).mono ?_; rintro e w1 ⟨rfl, o1, o2, o3, o4, o5, rfl⟩))
        all_goals (refine bodyPost_ret (by simp [results, Try.results44, go_sem]; try rfl) rfl ⟨?_, (by repeat (first | exact Below.refl _ _ | (refine Below.drew ?_) | (refine below_drewN ?_ _) | (refine Below.setCell ?_ (by first | omega | (simp; done) | (simp; omega)) _) | (refine Below.alloc ?_ (by first | omega | (simp; done) | (simp; omega)) _) | (refine Below.trans ?_ (Below.mono (by assumption) (by first | omega | (simp; done) | (simp; omega))))))⟩; exact ret_s (by unfold sameP; repeat' (first | rfl | omega | (dsimp only; omega) | split | (exfalso; omega))) (by unfold sameP; repeat' (first | rfl | omega | (dsimp only; omega) | split | (exfalso; omega))))
    · go_enter Try.func44, Try.ntmps44
      go_wp2_with (first | (go_at_call 16; refine (of_any _ _).mono ?_; rintro e w1 ⟨rfl, o1, rfl⟩) | (go_at_call 12; refine (meet_any (al, ah) (bl, bh) _).mono ?_; rintro e w1 ⟨rfl, o1, o2, o3, o4, o5, rfl⟩))
      all_goals (refine bodyPost_ret (by simp [results, Try.results44, go_sem]; try rfl) rfl ⟨?_, (by repeat (first | exact Below.refl _ _ | (refine Below.drew ?_) | (refine below_drewN ?_ _) | (refine Below.setCell ?_ (by first | omega | (simp; done) | (simp; omega)) _) | (refine Below.alloc ?_ (by first | omega | (simp; done) | (simp; omega)) _) | (refine Below.trans ?_ (Below.mono (by assumption) (by first | omega | (simp; done) | (simp; omega))))))⟩; exact ret_s (by unfold sameP; repeat' (first | rfl | omega | (dsimp only; omega) | split | (exfalso; omega))) (by unfold sameP; repeat' (first | rfl | omega | (dsimp only; omega) | split | (exfalso; omega))))
end Go.Proofs.Ytpegiljajlljkaa
