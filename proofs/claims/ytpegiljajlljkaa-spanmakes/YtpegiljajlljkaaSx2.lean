import Derived.Test.YtpegiljajlljkaaSf
namespace Go.Proofs.Ytpegiljajlljkaa
open Go.RowKit
set_option maxHeartbeats 8000000 in
theorem xors_np1 (a b : Int × Int) (w : World) (ha : Sp a) (hb : Sp b) (h1 : a.2 < 0) (h2 : 0 ≤ b.1) (h3 : -1 - a.1 < b.2) : Calls Try.prog 42 #[.agg #[.int .i64 a.1, .int .i64 a.2], .agg #[.int .i64 b.1, .int .i64 b.2]] w fun e w' => e = .returned (.agg #[.int .i64 (xorsP a b).1, .int .i64 (xorsP a b).2]) ∧ Below w.heap.size w w' := by
  unfold Sp at ha hb
  obtain ⟨a1, a2, a3⟩ := ha
  obtain ⟨b1, b2, b3⟩ := hb
  have HX : Hid (xorsP a b = (-1 - onesI b.2, -1)) := by
    unfold Hid xorsP
    rw [if_neg (by omega), if_neg (by omega), if_pos ⟨h1, h2⟩, Int.max_eq_right (by omega)]
  have B := ones_bd (b.2) (by omega)
  have h4 : ¬ 0 ≤ a.1 := by omega
  have h5 : ¬ b.2 < 0 := by omega
  go_enter Try.func42, Try.ntmps42
  go_wp2_with (first | (go_at_call 17; refine (any_any _).mono ?_; rintro e w1 ⟨rfl, o1, rfl⟩) | (go_at_call 60; refine (ones_any _ _ (by omega) (by omega)).mono ?_; rintro e w1 ⟨rfl, rfl⟩))
  all_goals (refine bodyPost_ret (by simp [results, Try.results42, go_sem]; try rfl) rfl ⟨?_, (by repeat (first | exact Below.refl _ _ | (refine Below.drew ?_) | (refine below_drewN ?_ _) | (refine Below.setCell ?_ (by first | omega | (simp; done) | (simp; omega)) _) | (refine Below.alloc ?_ (by first | omega | (simp; done) | (simp; omega)) _) | (refine Below.trans ?_ (Below.mono (by assumption) (by first | omega | (simp; done) | (simp; omega))))))⟩; rw [HX.out])
set_option maxHeartbeats 8000000 in
theorem xors_np2 (a b : Int × Int) (w : World) (ha : Sp a) (hb : Sp b) (h1 : a.2 < 0) (h2 : 0 ≤ b.1) (h3 : ¬ -1 - a.1 < b.2) : Calls Try.prog 42 #[.agg #[.int .i64 a.1, .int .i64 a.2], .agg #[.int .i64 b.1, .int .i64 b.2]] w fun e w' => e = .returned (.agg #[.int .i64 (xorsP a b).1, .int .i64 (xorsP a b).2]) ∧ Below w.heap.size w w' := by
  unfold Sp at ha hb
  obtain ⟨a1, a2, a3⟩ := ha
  obtain ⟨b1, b2, b3⟩ := hb
  have HX : Hid (xorsP a b = (-1 - onesI (-1 - a.1), -1)) := by
    unfold Hid xorsP
    rw [if_neg (by omega), if_neg (by omega), if_pos ⟨h1, h2⟩, Int.max_eq_left (by omega)]
  have B := ones_bd (-1 - a.1) (by omega)
  have h4 : ¬ 0 ≤ a.1 := by omega
  have h5 : ¬ b.2 < 0 := by omega
  go_enter Try.func42, Try.ntmps42
  go_wp2_with (first | (go_at_call 17; refine (any_any _).mono ?_; rintro e w1 ⟨rfl, o1, rfl⟩) | (go_at_call 60; refine (ones_any _ _ (by omega) (by omega)).mono ?_; rintro e w1 ⟨rfl, rfl⟩))
  all_goals (refine bodyPost_ret (by simp [results, Try.results42, go_sem]; try rfl) rfl ⟨?_, (by repeat (first | exact Below.refl _ _ | (refine Below.drew ?_) | (refine below_drewN ?_ _) | (refine Below.setCell ?_ (by first | omega | (simp; done) | (simp; omega)) _) | (refine Below.alloc ?_ (by first | omega | (simp; done) | (simp; omega)) _) | (refine Below.trans ?_ (Below.mono (by assumption) (by first | omega | (simp; done) | (simp; omega))))))⟩; rw [HX.out])
set_option maxHeartbeats 8000000 in
theorem xors_pn1 (a b : Int × Int) (w : World) (ha : Sp a) (hb : Sp b) (h1 : 0 ≤ a.1) (h2 : b.2 < 0) (h3 : -1 - b.1 < a.2) : Calls Try.prog 42 #[.agg #[.int .i64 a.1, .int .i64 a.2], .agg #[.int .i64 b.1, .int .i64 b.2]] w fun e w' => e = .returned (.agg #[.int .i64 (xorsP a b).1, .int .i64 (xorsP a b).2]) ∧ Below w.heap.size w w' := by
  unfold Sp at ha hb
  obtain ⟨a1, a2, a3⟩ := ha
  obtain ⟨b1, b2, b3⟩ := hb
  have HX : Hid (xorsP a b = (-1 - onesI a.2, -1)) := by
    unfold Hid xorsP
    rw [if_neg (by omega), if_neg (by omega), if_neg (by omega), if_pos ⟨h1, h2⟩, Int.max_eq_left (by omega)]
  have B := ones_bd (a.2) (by omega)
  have h4 : ¬ 0 ≤ b.1 := by omega
  have h5 : ¬ a.2 < 0 := by omega
  go_enter Try.func42, Try.ntmps42
  go_wp2_with (first | (go_at_call 17; refine (any_any _).mono ?_; rintro e w1 ⟨rfl, o1, rfl⟩) | (go_at_call 60; refine (ones_any _ _ (by omega) (by omega)).mono ?_; rintro e w1 ⟨rfl, rfl⟩))
  all_goals (refine bodyPost_ret (by simp [results, Try.results42, go_sem]; try rfl) rfl ⟨?_, (by repeat (first | exact Below.refl _ _ | (refine Below.drew ?_) | (refine below_drewN ?_ _) | (refine Below.setCell ?_ (by first | omega | (simp; done) | (simp; omega)) _) | (refine Below.alloc ?_ (by first | omega | (simp; done) | (simp; omega)) _) | (refine Below.trans ?_ (Below.mono (by assumption) (by first | omega | (simp; done) | (simp; omega))))))⟩; rw [HX.out])
set_option maxHeartbeats 8000000 in
theorem xors_pn2 (a b : Int × Int) (w : World) (ha : Sp a) (hb : Sp b) (h1 : 0 ≤ a.1) (h2 : b.2 < 0) (h3 : ¬ -1 - b.1 < a.2) : Calls Try.prog 42 #[.agg #[.int .i64 a.1, .int .i64 a.2], .agg #[.int .i64 b.1, .int .i64 b.2]] w fun e w' => e = .returned (.agg #[.int .i64 (xorsP a b).1, .int .i64 (xorsP a b).2]) ∧ Below w.heap.size w w' := by
  unfold Sp at ha hb
  obtain ⟨a1, a2, a3⟩ := ha
  obtain ⟨b1, b2, b3⟩ := hb
  have HX : Hid (xorsP a b = (-1 - onesI (-1 - b.1), -1)) := by
    unfold Hid xorsP
    rw [if_neg (by omega), if_neg (by omega), if_neg (by omega), if_pos ⟨h1, h2⟩, Int.max_eq_right (by omega)]
  have B := ones_bd (-1 - b.1) (by omega)
  have h4 : ¬ 0 ≤ b.1 := by omega
  have h5 : ¬ a.2 < 0 := by omega
  go_enter Try.func42, Try.ntmps42
  go_wp2_with (first | (go_at_call 17; refine (any_any _).mono ?_; rintro e w1 ⟨rfl, o1, rfl⟩) | (go_at_call 60; refine (ones_any _ _ (by omega) (by omega)).mono ?_; rintro e w1 ⟨rfl, rfl⟩))
  all_goals (refine bodyPost_ret (by simp [results, Try.results42, go_sem]; try rfl) rfl ⟨?_, (by repeat (first | exact Below.refl _ _ | (refine Below.drew ?_) | (refine below_drewN ?_ _) | (refine Below.setCell ?_ (by first | omega | (simp; done) | (simp; omega)) _) | (refine Below.alloc ?_ (by first | omega | (simp; done) | (simp; omega)) _) | (refine Below.trans ?_ (Below.mono (by assumption) (by first | omega | (simp; done) | (simp; omega))))))⟩; rw [HX.out])
end Go.Proofs.Ytpegiljajlljkaa
