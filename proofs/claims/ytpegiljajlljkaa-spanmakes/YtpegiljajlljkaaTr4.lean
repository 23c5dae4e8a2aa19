import Derived.Test.YtpegiljajlljkaaTr0
namespace Go.Proofs.Ytpegiljajlljkaa
open Go.RowKit
set_option maxRecDepth 100000 in
set_option maxHeartbeats 16000000 in
theorem twor_4 (a b : Int × Int) (w : World) (ha : Sp a) (hb : Sp b) : Calls Try.prog 30 #[.int .i64 4, .agg #[.int .i64 a.1, .int .i64 a.2], .agg #[.int .i64 b.1, .int .i64 b.2]] w fun e w' => e = .returned (.tuple #[.agg #[.int .i64 ((twoP 4 a b).1).1, .int .i64 ((twoP 4 a b).1).2], .bool (twoP 4 a b).2]) ∧ Below w.heap.size w w' := by
  have e0 : twoP 4 a b = (sumsP a b, true) := by unfold twoP; simp only [Int.reduceEq, if_false, if_true]
  have i1 : i64 a.1 := by unfold Sp at ha; unfold i64; omega
  have i2 : i64 a.2 := by unfold Sp at ha; unfold i64; omega
  have i3 : i64 b.1 := by unfold Sp at hb; unfold i64; omega
  have i4 : i64 b.2 := by unfold Sp at hb; unfold i64; omega
  have HQ : Hid (sumsP a b = hulP (fit (a.1 + b.1) && fit (a.2 + b.2)) (wrap64 (a.1 + b.1)) (wrap64 (a.2 + b.2))) := by
    unfold Hid hulP sumsP
    by_cases h : (fit (a.1 + b.1) && fit (a.2 + b.2)) = true
    · rw [if_pos h, if_pos h]
      rw [Bool.and_eq_true] at h
      unfold fit at h
      simp only [Bool.and_eq_true, decide_eq_true_eq] at h
      rw [wrap_fit _ h.1.1 h.1.2, wrap_fit _ h.2.1 h.2.2]
      unfold Sp at ha hb
      rw [Prod.mk.injEq]
      omega
    · rw [if_neg h, if_neg h]
  rw [e0]
  dsimp only
  generalize sumsP a b = r at *
  clear e0 ha hb
  cases hf : fit (a.1 + b.1)
  · go_enter Try.func30, Try.ntmps30
    go_wp2_with (first | (go_at_call 45; refine (add_any _ _ _ (by assumption) (by assumption)).mono ?_; rintro e w1 ⟨rfl, rfl⟩) | (go_at_call 46; refine (hull2 _ _ _ _ _ _ (by simp)).mono ?_; rintro e wQ ⟨rfl, hbQ⟩; obtain ⟨hcQ, hfQ⟩ := bcell hbQ; have hzQ := hbQ.size; simp at hzQ))

    refine bodyPost_ret (by simp [results, Try.results30, go_sem, *]; try rfl) rfl ⟨?_, (by repeat (first | exact Below.refl _ _ | (refine Below.drew ?_) | (refine below_drewN ?_ _) | (refine Below.setCell ?_ (by first | omega | (simp; done) | (simp; omega)) _) | (refine Below.alloc ?_ (by first | omega | (simp; done) | (simp; omega)) _) | (refine Below.trans ?_ (Below.mono (by assumption) (by first | omega | (simp; done) | (simp; omega))))))⟩
    rw [HQ.out, hf]
    rfl
  · go_enter Try.func30, Try.ntmps30
    go_wp2_with (first | (go_at_call 45; refine (add_any _ _ _ (by assumption) (by assumption)).mono ?_; rintro e w1 ⟨rfl, rfl⟩) | (go_at_call 46; refine (hull2 _ _ _ _ _ _ (by simp)).mono ?_; rintro e wQ ⟨rfl, hbQ⟩; obtain ⟨hcQ, hfQ⟩ := bcell hbQ; have hzQ := hbQ.size; simp at hzQ))

    refine bodyPost_ret (by simp [results, Try.results30, go_sem, *]; try rfl) rfl ⟨?_, (by repeat (first | exact Below.refl _ _ | (refine Below.drew ?_) | (refine below_drewN ?_ _) | (refine Below.setCell ?_ (by first | omega | (simp; done) | (simp; omega)) _) | (refine Below.alloc ?_ (by first | omega | (simp; done) | (simp; omega)) _) | (refine Below.trans ?_ (Below.mono (by assumption) (by first | omega | (simp; done) | (simp; omega))))))⟩
    rw [HQ.out, hf]
    rfl
end Go.Proofs.Ytpegiljajlljkaa
