import Derived.Test.YtpegiljajlljkaaSr2
namespace Go.Proofs.Ytpegiljajlljkaa
open Go.RowKit
set_option maxHeartbeats 8000000 in
theorem xorr_al1 (a b : Int × Int) (w : World) (ha : Sp a) (hb : Sp b) (h1 : a.1 < 0) (h2 : 0 ≤ a.2) : Calls Try.prog 52 #[.agg #[.int .i64 a.1, .int .i64 a.2], .agg #[.int .i64 b.1, .int .i64 b.2]] w fun e w' => e = .returned (.agg #[.int .i64 (xorsP a b).1, .int .i64 (xorsP a b).2]) ∧ Below w.heap.size w w' := by
  unfold Sp at ha hb
  obtain ⟨a1, a2, a3⟩ := ha
  obtain ⟨b1, b2, b3⟩ := hb
  have HX : Hid (xorsP a b = (-9223372036854775808, 9223372036854775807)) := by
    unfold Hid xorsP
    rw [if_neg (by omega), if_neg (by omega), if_neg (by omega), if_neg (by omega)]; rfl
  have h8 : ¬ 0 ≤ a.1 := by omega
  have h9 : ¬ a.2 < 0 := by omega
  rcases (by omega : (0 ≤ b.1 ∧ ¬ b.2 < 0) ∨ (¬ 0 ≤ b.1 ∧ b.2 < 0) ∨ (¬ 0 ≤ b.1 ∧ ¬ b.2 < 0)) with ⟨h3, h4⟩ | ⟨h3, h4⟩ | ⟨h3, h4⟩ <;>
  · go_enter Try.func52, Try.ntmps52
    go_wp2_with (first | (go_at_call 18; refine (anyr_any _).mono ?_; rintro e w1 ⟨rfl, o1, rfl⟩) | (go_at_call 62; refine (onesr_any _ _ (by omega) (by omega)).mono ?_; rintro e w1 ⟨rfl, rfl⟩))
    all_goals (refine bodyPost_ret (by simp [results, Try.results52, go_sem]; try rfl) rfl ⟨?_, (by repeat (first | exact Below.refl _ _ | (refine Below.drew ?_) | (refine below_drewN ?_ _) | (refine Below.setCell ?_ (by first | omega | (simp; done) | (simp; omega)) _) | (refine Below.alloc ?_ (by first | omega | (simp; done) | (simp; omega)) _) | (refine Below.trans ?_ (Below.mono (by assumption) (by first | omega | (simp; done) | (simp; omega))))))⟩; rw [HX.out])
set_option maxHeartbeats 8000000 in
theorem xorr_al2 (a b : Int × Int) (w : World) (ha : Sp a) (hb : Sp b) (h0 : ¬ (a.1 < 0 ∧ 0 ≤ a.2)) (h1 : b.1 < 0) (h2 : 0 ≤ b.2) : Calls Try.prog 52 #[.agg #[.int .i64 a.1, .int .i64 a.2], .agg #[.int .i64 b.1, .int .i64 b.2]] w fun e w' => e = .returned (.agg #[.int .i64 (xorsP a b).1, .int .i64 (xorsP a b).2]) ∧ Below w.heap.size w w' := by
  unfold Sp at ha hb
  obtain ⟨a1, a2, a3⟩ := ha
  obtain ⟨b1, b2, b3⟩ := hb
  have HX : Hid (xorsP a b = (-9223372036854775808, 9223372036854775807)) := by
    unfold Hid xorsP
    rw [if_neg (by omega), if_neg (by omega), if_neg (by omega), if_neg (by omega)]; rfl
  have h8 : ¬ 0 ≤ b.1 := by omega
  have h9 : ¬ b.2 < 0 := by omega
  rcases (by omega : (0 ≤ a.1 ∧ ¬ a.2 < 0) ∨ (¬ 0 ≤ a.1 ∧ a.2 < 0)) with ⟨h3, h4⟩ | ⟨h3, h4⟩ <;>
  · go_enter Try.func52, Try.ntmps52
    go_wp2_with (first | (go_at_call 18; refine (anyr_any _).mono ?_; rintro e w1 ⟨rfl, o1, rfl⟩) | (go_at_call 62; refine (onesr_any _ _ (by omega) (by omega)).mono ?_; rintro e w1 ⟨rfl, rfl⟩))
    all_goals (refine bodyPost_ret (by simp [results, Try.results52, go_sem]; try rfl) rfl ⟨?_, (by repeat (first | exact Below.refl _ _ | (refine Below.drew ?_) | (refine below_drewN ?_ _) | (refine Below.setCell ?_ (by first | omega | (simp; done) | (simp; omega)) _) | (refine Below.alloc ?_ (by first | omega | (simp; done) | (simp; omega)) _) | (refine Below.trans ?_ (Below.mono (by assumption) (by first | omega | (simp; done) | (simp; omega))))))⟩; rw [HX.out])
end Go.Proofs.Ytpegiljajlljkaa
