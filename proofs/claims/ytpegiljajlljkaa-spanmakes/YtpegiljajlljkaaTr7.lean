import Derived.Test.YtpegiljajlljkaaDiv
import Derived.Test.YtpegiljajlljkaaSr3
import Derived.Test.YtpegiljajlljkaaSr4
import Derived.Test.YtpegiljajlljkaaSy
namespace Go.Proofs.Ytpegiljajlljkaa
open Go.RowKit
set_option maxRecDepth 100000 in
set_option maxHeartbeats 16000000 in
theorem twor_7 (a b : Int × Int) (w : World) (ha : Sp a) (hb : Sp b) : Calls Try.prog 30 #[.int .i64 7, .agg #[.int .i64 a.1, .int .i64 a.2], .agg #[.int .i64 b.1, .int .i64 b.2]] w fun e w' => e = .returned (.tuple #[.agg #[.int .i64 ((twoP 7 a b).1).1, .int .i64 ((twoP 7 a b).1).2], .bool (twoP 7 a b).2]) ∧ Below w.heap.size w w' := by
  have e : twoP 7 a b = quotsP a b := by unfold twoP; simp only [Int.reduceEq, if_false, if_true]
  have hC := fun w => div_any a b w ha hb
  rw [e]
  generalize quotsP a b = r at *
  clear e ha hb
  go_enter Try.func30, Try.ntmps30
  go_wp2_with (go_at_call 49; refine (hC _).mono ?_; rintro e wQ ⟨rfl, hbQ⟩; obtain ⟨hcQ, hfQ⟩ := bcell hbQ; have hzQ := hbQ.size; simp at hzQ)
  clear hC
  refine bodyPost_ret (by simp [results, Try.results30, go_sem, *]; try rfl) rfl ⟨?_, (by repeat (first | exact Below.refl _ _ | (refine Below.drew ?_) | (refine below_drewN ?_ _) | (refine Below.setCell ?_ (by first | omega | (simp; done) | (simp; omega)) _) | (refine Below.alloc ?_ (by first | omega | (simp; done) | (simp; omega)) _) | (refine Below.trans ?_ (Below.mono (by assumption) (by first | omega | (simp; done) | (simp; omega))))))⟩
  rfl
set_option maxRecDepth 100000 in
set_option maxHeartbeats 16000000 in
theorem twor_8 (a b : Int × Int) (w : World) (ha : Sp a) (hb : Sp b) : Calls Try.prog 30 #[.int .i64 8, .agg #[.int .i64 a.1, .int .i64 a.2], .agg #[.int .i64 b.1, .int .i64 b.2]] w fun e w' => e = .returned (.tuple #[.agg #[.int .i64 ((twoP 8 a b).1).1, .int .i64 ((twoP 8 a b).1).2], .bool (twoP 8 a b).2]) ∧ Below w.heap.size w w' := by
  have e : twoP 8 a b = remsP a b := by unfold twoP; simp only [Int.reduceEq, if_false, if_true]
  have hC := fun w => remr_any a.1 a.2 b.1 b.2 w ha hb
  rw [e]
  generalize remsP a b = r at *
  clear e ha hb
  go_enter Try.func30, Try.ntmps30
  go_wp2_with (go_at_call 50; refine (hC _).mono ?_; rintro e wQ ⟨rfl, hbQ⟩; obtain ⟨hcQ, hfQ⟩ := bcell hbQ; have hzQ := hbQ.size; simp at hzQ)
  clear hC
  refine bodyPost_ret (by simp [results, Try.results30, go_sem, *]; try rfl) rfl ⟨?_, (by repeat (first | exact Below.refl _ _ | (refine Below.drew ?_) | (refine below_drewN ?_ _) | (refine Below.setCell ?_ (by first | omega | (simp; done) | (simp; omega)) _) | (refine Below.alloc ?_ (by first | omega | (simp; done) | (simp; omega)) _) | (refine Below.trans ?_ (Below.mono (by assumption) (by first | omega | (simp; done) | (simp; omega))))))⟩
  rfl
set_option maxRecDepth 100000 in
set_option maxHeartbeats 16000000 in
theorem twor_9 (a b : Int × Int) (w : World) (_ha : Sp a) (_hb : Sp b) : Calls Try.prog 30 #[.int .i64 9, .agg #[.int .i64 a.1, .int .i64 a.2], .agg #[.int .i64 b.1, .int .i64 b.2]] w fun e w' => e = .returned (.tuple #[.agg #[.int .i64 ((twoP 9 a b).1).1, .int .i64 ((twoP 9 a b).1).2], .bool (twoP 9 a b).2]) ∧ Below w.heap.size w w' := by
  have e : twoP 9 a b = (andsP a b, true) := by unfold twoP; simp only [Int.reduceEq, if_false, if_true]
  have hC := fun w => andr_any a b w
  rw [e]
  dsimp only
  generalize andsP a b = r at *
  clear e _ha _hb
  go_enter Try.func30, Try.ntmps30
  go_wp2_with (go_at_call 51; refine (hC _).mono ?_; rintro e wQ ⟨rfl, hbQ⟩; obtain ⟨hcQ, hfQ⟩ := bcell hbQ; have hzQ := hbQ.size; simp at hzQ)
  clear hC
  refine bodyPost_ret (by simp [results, Try.results30, go_sem, *]; try rfl) rfl ⟨?_, (by repeat (first | exact Below.refl _ _ | (refine Below.drew ?_) | (refine below_drewN ?_ _) | (refine Below.setCell ?_ (by first | omega | (simp; done) | (simp; omega)) _) | (refine Below.alloc ?_ (by first | omega | (simp; done) | (simp; omega)) _) | (refine Below.trans ?_ (Below.mono (by assumption) (by first | omega | (simp; done) | (simp; omega))))))⟩
  rfl
set_option maxRecDepth 100000 in
set_option maxHeartbeats 16000000 in
theorem twor_10 (a b : Int × Int) (w : World) (ha : Sp a) (hb : Sp b) : Calls Try.prog 30 #[.int .i64 10, .agg #[.int .i64 a.1, .int .i64 a.2], .agg #[.int .i64 b.1, .int .i64 b.2]] w fun e w' => e = .returned (.tuple #[.agg #[.int .i64 ((twoP 10 a b).1).1, .int .i64 ((twoP 10 a b).1).2], .bool (twoP 10 a b).2]) ∧ Below w.heap.size w w' := by
  have e : twoP 10 a b = (xorsP a b, true) := by unfold twoP; simp only [Int.reduceEq, if_false, if_true]
  have hC := fun w => xorr_any a b w ha hb
  rw [e]
  dsimp only
  generalize xorsP a b = r at *
  clear e ha hb
  go_enter Try.func30, Try.ntmps30
  go_wp2_with (go_at_call 52; refine (hC _).mono ?_; rintro e wQ ⟨rfl, hbQ⟩; obtain ⟨hcQ, hfQ⟩ := bcell hbQ; have hzQ := hbQ.size; simp at hzQ)
  clear hC
  refine bodyPost_ret (by simp [results, Try.results30, go_sem, *]; try rfl) rfl ⟨?_, (by repeat (first | exact Below.refl _ _ | (refine Below.drew ?_) | (refine below_drewN ?_ _) | (refine Below.setCell ?_ (by first | omega | (simp; done) | (simp; omega)) _) | (refine Below.alloc ?_ (by first | omega | (simp; done) | (simp; omega)) _) | (refine Below.trans ?_ (Below.mono (by assumption) (by first | omega | (simp; done) | (simp; omega))))))⟩
  rfl
end Go.Proofs.Ytpegiljajlljkaa
