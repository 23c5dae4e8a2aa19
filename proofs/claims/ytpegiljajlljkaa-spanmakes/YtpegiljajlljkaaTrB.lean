import Derived.Test.YtpegiljajlljkaaHu
namespace Go.Proofs.Ytpegiljajlljkaa
open Go.RowKit
set_option maxRecDepth 100000 in
set_option maxHeartbeats 16000000 in
theorem twor_11 (a b : Int × Int) (w : World) (_ha : Sp a) (_hb : Sp b) : Calls Try.prog 30 #[.int .i64 11, .agg #[.int .i64 a.1, .int .i64 a.2], .agg #[.int .i64 b.1, .int .i64 b.2]] w fun e w' => e = .returned (.tuple #[.agg #[.int .i64 ((twoP 11 a b).1).1, .int .i64 ((twoP 11 a b).1).2], .bool (twoP 11 a b).2]) ∧ Below w.heap.size w w' := by
  have e : twoP 11 a b = (lessP a b, true) := by unfold twoP; simp only [Int.reduceEq, if_false, if_true]
  rw [e]
  dsimp only
  clear e _ha _hb
  unfold lessP
  by_cases h1 : a.2 < b.1
  · rw [if_pos h1]
    go_enter Try.func30, Try.ntmps30
    go_wp2_with fail
    refine bodyPost_ret (by simp [results, Try.results30, go_sem, *]; try rfl) rfl ⟨?_, (by repeat (first | exact Below.refl _ _ | (refine Below.drew ?_) | (refine below_drewN ?_ _) | (refine Below.setCell ?_ (by first | omega | (simp; done) | (simp; omega)) _) | (refine Below.alloc ?_ (by first | omega | (simp; done) | (simp; omega)) _) | (refine Below.trans ?_ (Below.mono (by assumption) (by first | omega | (simp; done) | (simp; omega))))))⟩
    rfl
  · rw [if_neg h1]
    by_cases h2 : b.2 ≤ a.1
    · rw [if_pos h2]
      go_enter Try.func30, Try.ntmps30
      go_wp2_with fail
      refine bodyPost_ret (by simp [results, Try.results30, go_sem, *]; try rfl) rfl ⟨?_, (by repeat (first | exact Below.refl _ _ | (refine Below.drew ?_) | (refine below_drewN ?_ _) | (refine Below.setCell ?_ (by first | omega | (simp; done) | (simp; omega)) _) | (refine Below.alloc ?_ (by first | omega | (simp; done) | (simp; omega)) _) | (refine Below.trans ?_ (Below.mono (by assumption) (by first | omega | (simp; done) | (simp; omega))))))⟩
      rfl
    · rw [if_neg h2]
      go_enter Try.func30, Try.ntmps30
      go_wp2_with fail
      refine bodyPost_ret (by simp [results, Try.results30, go_sem, *]; try rfl) rfl ⟨?_, (by repeat (first | exact Below.refl _ _ | (refine Below.drew ?_) | (refine below_drewN ?_ _) | (refine Below.setCell ?_ (by first | omega | (simp; done) | (simp; omega)) _) | (refine Below.alloc ?_ (by first | omega | (simp; done) | (simp; omega)) _) | (refine Below.trans ?_ (Below.mono (by assumption) (by first | omega | (simp; done) | (simp; omega))))))⟩
      rfl
end Go.Proofs.Ytpegiljajlljkaa
