import Derived.Test.YtpegiljajlljkaaTr4
import Derived.Test.YtpegiljajlljkaaTr5
import Derived.Test.YtpegiljajlljkaaTr6
import Derived.Test.YtpegiljajlljkaaTr7
import Derived.Test.YtpegiljajlljkaaTrB
import Derived.Test.YtpegiljajlljkaaTrC
namespace Go.Proofs.Ytpegiljajlljkaa
open Go.RowKit
set_option maxRecDepth 100000 in
set_option maxHeartbeats 16000000 in
theorem twor_any (op : Int) (a b : Int × Int) (w : World) (ha : Sp a) (hb : Sp b) : Calls Try.prog 30 #[.int .i64 op, .agg #[.int .i64 a.1, .int .i64 a.2], .agg #[.int .i64 b.1, .int .i64 b.2]] w fun e w' => e = .returned (.tuple #[.agg #[.int .i64 ((twoP op a b).1).1, .int .i64 ((twoP op a b).1).2], .bool (twoP op a b).2]) ∧ Below w.heap.size w w' := by
  by_cases q4 : op = 4
  · subst q4
    exact twor_4 a b w ha hb
  by_cases q5 : op = 5
  · subst q5
    exact twor_5 a b w ha hb
  by_cases q6 : op = 6
  · subst q6
    exact twor_6 a b w ha hb
  by_cases q7 : op = 7
  · subst q7
    exact twor_7 a b w ha hb
  by_cases q8 : op = 8
  · subst q8
    exact twor_8 a b w ha hb
  by_cases q9 : op = 9
  · subst q9
    exact twor_9 a b w ha hb
  by_cases q10 : op = 10
  · subst q10
    exact twor_10 a b w ha hb
  by_cases q11 : op = 11
  · subst q11
    exact twor_11 a b w ha hb
  by_cases q12 : op = 12
  · subst q12
    exact twor_12 a b w ha hb
  have e : twoP op a b = ((0, 0), false) := by unfold twoP; rw [if_neg q4, if_neg q5, if_neg q6, if_neg q7, if_neg q8, if_neg q9, if_neg q10, if_neg q11, if_neg q12]
  rw [e]
  clear e ha hb
  go_enter Try.func30, Try.ntmps30
  go_wp2_with fail
  refine bodyPost_ret (by simp [results, Try.results30, go_sem]; try rfl) rfl ⟨?_, (by repeat (first | exact Below.refl _ _ | (refine Below.drew ?_) | (refine below_drewN ?_ _) | (refine Below.setCell ?_ (by first | omega | (simp; done) | (simp; omega)) _) | (refine Below.alloc ?_ (by first | omega | (simp; done) | (simp; omega)) _) | (refine Below.trans ?_ (Below.mono (by assumption) (by first | omega | (simp; done) | (simp; omega))))))⟩
  rfl
end Go.Proofs.Ytpegiljajlljkaa
