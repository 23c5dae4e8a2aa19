import Derived.Test.YtpegiljajlljkaaHu
namespace Go.Proofs.Ytpegiljajlljkaa
open Go.RowKit
set_option maxRecDepth 100000 in
set_option maxHeartbeats 16000000 in
theorem twor_12p (al ah bl bh : Int) (w : World) (ha : Sp (al, ah)) (hb : Sp (bl, bh)) : Calls Try.prog 30 #[.int .i64 12, .agg #[.int .i64 ((al, ah)).1, .int .i64 ((al, ah)).2], .agg #[.int .i64 ((bl, bh)).1, .int .i64 ((bl, bh)).2]] w fun e w' => e = .returned (.tuple #[.agg #[.int .i64 (sameP (al, ah) (bl, bh)).1, .int .i64 (sameP (al, ah) (bl, bh)).2], .bool true]) ∧ Below w.heap.size w w' := by
  unfold Sp at ha hb
  obtain ⟨a1, a2, a3⟩ := ha
  obtain ⟨b1, b2, b3⟩ := hb
  dsimp only at a1 a2 a3 b1 b2 b3 ⊢
  unfold sameP
  dsimp only
  clear a1 a3 b1 b3
  by_cases h1 : ah < bl
  · rw [if_pos (Or.inl h1)]
    have g1 : (al == ah && al == bl && ah == bh) = false := by
      simp only [Bool.and_eq_false_iff, beq_eq_false_iff_ne]
      omega
    by_cases h4 : al = ah
    · subst h4
      have h5 : (al == bl) = false := by rw [beq_eq_false_iff_ne]; omega
      clear g1 a2
      go_enter Try.func30, Try.ntmps30
      go_wp2_with fail
      all_goals (refine bodyPost_ret (by simp [results, Try.results30, go_sem]; try rfl) rfl ⟨?_, (by repeat (first | exact Below.refl _ _ | (refine Below.drew ?_) | (refine below_drewN ?_ _) | (refine Below.setCell ?_ (by first | omega | (simp; done) | (simp; omega)) _) | (refine Below.alloc ?_ (by first | omega | (simp; done) | (simp; omega)) _) | (refine Below.trans ?_ (Below.mono (by assumption) (by first | omega | (simp; done) | (simp; omega))))))⟩; first | rfl | (exfalso; omega) | skip)
    · have h5 : (al == ah) = false := by rw [beq_eq_false_iff_ne]; exact h4
      clear g1 h4
      go_enter Try.func30, Try.ntmps30
      go_wp2_with fail
      all_goals (refine bodyPost_ret (by simp [results, Try.results30, go_sem]; try rfl) rfl ⟨?_, (by repeat (first | exact Below.refl _ _ | (refine Below.drew ?_) | (refine below_drewN ?_ _) | (refine Below.setCell ?_ (by first | omega | (simp; done) | (simp; omega)) _) | (refine Below.alloc ?_ (by first | omega | (simp; done) | (simp; omega)) _) | (refine Below.trans ?_ (Below.mono (by assumption) (by first | omega | (simp; done) | (simp; omega))))))⟩; first | rfl | (exfalso; omega) | skip)
  · by_cases h2 : bh < al
    · rw [if_pos (Or.inr h2)]
      by_cases h4 : al = ah
      · subst h4
        have h5 : (al == bl) = false := by rw [beq_eq_false_iff_ne]; omega
        clear a2 b2
        go_enter Try.func30, Try.ntmps30
        go_wp2_with fail
        all_goals (refine bodyPost_ret (by simp [results, Try.results30, go_sem]; try rfl) rfl ⟨?_, (by repeat (first | exact Below.refl _ _ | (refine Below.drew ?_) | (refine below_drewN ?_ _) | (refine Below.setCell ?_ (by first | omega | (simp; done) | (simp; omega)) _) | (refine Below.alloc ?_ (by first | omega | (simp; done) | (simp; omega)) _) | (refine Below.trans ?_ (Below.mono (by assumption) (by first | omega | (simp; done) | (simp; omega))))))⟩; first | rfl | (exfalso; omega) | skip)
      · have h5 : (al == ah) = false := by rw [beq_eq_false_iff_ne]; exact h4
        clear h4 a2 b2
        go_enter Try.func30, Try.ntmps30
        go_wp2_with fail
        all_goals (refine bodyPost_ret (by simp [results, Try.results30, go_sem]; try rfl) rfl ⟨?_, (by repeat (first | exact Below.refl _ _ | (refine Below.drew ?_) | (refine below_drewN ?_ _) | (refine Below.setCell ?_ (by first | omega | (simp; done) | (simp; omega)) _) | (refine Below.alloc ?_ (by first | omega | (simp; done) | (simp; omega)) _) | (refine Below.trans ?_ (Below.mono (by assumption) (by first | omega | (simp; done) | (simp; omega))))))⟩; first | rfl | (exfalso; omega) | skip)
    · rw [if_neg (by omega)]
      by_cases h4 : al = ah
      · subst h4
        by_cases h6 : al = bl
        · subst h6
          by_cases h7 : al = bh
          · subst h7
            rw [if_pos ⟨rfl, rfl, rfl⟩]
            clear h1 h2 a2 b2
            go_enter Try.func30, Try.ntmps30
            go_wp2_with fail
            all_goals (refine bodyPost_ret (by simp [results, Try.results30, go_sem]; try rfl) rfl ⟨?_, (by repeat (first | exact Below.refl _ _ | (refine Below.drew ?_) | (refine below_drewN ?_ _) | (refine Below.setCell ?_ (by first | omega | (simp; done) | (simp; omega)) _) | (refine Below.alloc ?_ (by first | omega | (simp; done) | (simp; omega)) _) | (refine Below.trans ?_ (Below.mono (by assumption) (by first | omega | (simp; done) | (simp; omega))))))⟩; first | rfl | (exfalso; omega) | skip)
          · rw [if_neg (fun t => h7 t.2.2)]
            have h5 : (al == bh) = false := by rw [beq_eq_false_iff_ne]; exact h7
            clear a2 b2 h7
            go_enter Try.func30, Try.ntmps30
            go_wp2_with fail
            all_goals (refine bodyPost_ret (by simp [results, Try.results30, go_sem]; try rfl) rfl ⟨?_, (by repeat (first | exact Below.refl _ _ | (refine Below.drew ?_) | (refine below_drewN ?_ _) | (refine Below.setCell ?_ (by first | omega | (simp; done) | (simp; omega)) _) | (refine Below.alloc ?_ (by first | omega | (simp; done) | (simp; omega)) _) | (refine Below.trans ?_ (Below.mono (by assumption) (by first | omega | (simp; done) | (simp; omega))))))⟩; first | rfl | (exfalso; omega) | skip)
        · rw [if_neg (fun t => h6 t.2.1)]
          have h5 : (al == bl) = false := by rw [beq_eq_false_iff_ne]; exact h6
          clear a2 b2 h6
          go_enter Try.func30, Try.ntmps30
          go_wp2_with fail
          all_goals (refine bodyPost_ret (by simp [results, Try.results30, go_sem]; try rfl) rfl ⟨?_, (by repeat (first | exact Below.refl _ _ | (refine Below.drew ?_) | (refine below_drewN ?_ _) | (refine Below.setCell ?_ (by first | omega | (simp; done) | (simp; omega)) _) | (refine Below.alloc ?_ (by first | omega | (simp; done) | (simp; omega)) _) | (refine Below.trans ?_ (Below.mono (by assumption) (by first | omega | (simp; done) | (simp; omega))))))⟩; first | rfl | (exfalso; omega) | skip)
      · rw [if_neg (fun t => h4 t.1)]
        have h5 : (al == ah) = false := by rw [beq_eq_false_iff_ne]; exact h4
        clear a2 b2 h4
        go_enter Try.func30, Try.ntmps30
        go_wp2_with fail
        all_goals (refine bodyPost_ret (by simp [results, Try.results30, go_sem]; try rfl) rfl ⟨?_, (by repeat (first | exact Below.refl _ _ | (refine Below.drew ?_) | (refine below_drewN ?_ _) | (refine Below.setCell ?_ (by first | omega | (simp; done) | (simp; omega)) _) | (refine Below.alloc ?_ (by first | omega | (simp; done) | (simp; omega)) _) | (refine Below.trans ?_ (Below.mono (by assumption) (by first | omega | (simp; done) | (simp; omega))))))⟩; first | rfl | (exfalso; omega) | skip)
theorem twor_12 (a b : Int × Int) (w : World) (ha : Sp a) (hb : Sp b) : Calls Try.prog 30 #[.int .i64 12, .agg #[.int .i64 a.1, .int .i64 a.2], .agg #[.int .i64 b.1, .int .i64 b.2]] w fun e w' => e = .returned (.tuple #[.agg #[.int .i64 ((twoP 12 a b).1).1, .int .i64 ((twoP 12 a b).1).2], .bool (twoP 12 a b).2]) ∧ Below w.heap.size w w' := by
  have e : twoP 12 a b = (sameP a b, true) := by unfold twoP; simp only [Int.reduceEq, if_false, if_true]
  rw [e]
  exact twor_12p a.1 a.2 b.1 b.2 w ha hb
end Go.Proofs.Ytpegiljajlljkaa
