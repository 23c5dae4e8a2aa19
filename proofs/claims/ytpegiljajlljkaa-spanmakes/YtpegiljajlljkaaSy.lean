import Derived.Test.YtpegiljajlljkaaSy1
import Derived.Test.YtpegiljajlljkaaSy2
import Derived.Test.YtpegiljajlljkaaSy3
namespace Go.Proofs.Ytpegiljajlljkaa
open Go.RowKit
theorem xorr_any (a b : Int × Int) (w : World) (ha : Sp a) (hb : Sp b) : Calls Try.prog 52 #[.agg #[.int .i64 a.1, .int .i64 a.2], .agg #[.int .i64 b.1, .int .i64 b.2]] w fun e w' => e = .returned (.agg #[.int .i64 (xorsP a b).1, .int .i64 (xorsP a b).2]) ∧ Below w.heap.size w w' := by
  have hb' := hb
  unfold Sp at hb'
  by_cases k1 : a.1 < 0 ∧ 0 ≤ a.2
  · exact xorr_al1 a b w ha hb k1.1 k1.2
  by_cases k2 : b.1 < 0 ∧ 0 ≤ b.2
  · exact xorr_al2 a b w ha hb k1 k2.1 k2.2
  have ha' := ha
  unfold Sp at ha'
  by_cases k3 : a.2 < 0
  · by_cases k4 : b.2 < 0
    · by_cases k5 : -1 - a.1 < -1 - b.1
      · exact xorr_nn1 a b w ha hb k3 k4 k5
      · exact xorr_nn2 a b w ha hb k3 k4 k5
    · by_cases k5 : -1 - a.1 < b.2
      · exact xorr_np1 a b w ha hb k3 (by omega) k5
      · exact xorr_np2 a b w ha hb k3 (by omega) k5
  · by_cases k4 : b.2 < 0
    · by_cases k5 : a.2 < -1 - b.1
      · exact xorr_pn2 a b w ha hb (by omega) k4 k5
      · exact xorr_pn1 a b w ha hb (by omega) k4 k5
    · by_cases k5 : a.2 < b.2
      · exact xorr_pp1 a b w ha hb (by omega) (by omega) k5
      · exact xorr_pp2 a b w ha hb (by omega) (by omega) k5
end Go.Proofs.Ytpegiljajlljkaa
