import Derived.Test.YtpegiljajlljkaaSx1
import Derived.Test.YtpegiljajlljkaaSx2
import Derived.Test.YtpegiljajlljkaaSx3
namespace Go.Proofs.Ytpegiljajlljkaa
open Go.RowKit
theorem xors_any (a b : Int × Int) (w : World) (ha : Sp a) (hb : Sp b) : Calls Try.prog 42 #[.agg #[.int .i64 a.1, .int .i64 a.2], .agg #[.int .i64 b.1, .int .i64 b.2]] w fun e w' => e = .returned (.agg #[.int .i64 (xorsP a b).1, .int .i64 (xorsP a b).2]) ∧ Below w.heap.size w w' := by
  have hb' := hb
  unfold Sp at hb'
  by_cases k1 : a.1 < 0 ∧ 0 ≤ a.2
  · exact xors_al1 a b w ha hb k1.1 k1.2
  by_cases k2 : b.1 < 0 ∧ 0 ≤ b.2
  · exact xors_al2 a b w ha hb k1 k2.1 k2.2
  have ha' := ha
  unfold Sp at ha'
  by_cases k3 : a.2 < 0
  · by_cases k4 : b.2 < 0
    · by_cases k5 : -1 - a.1 < -1 - b.1
      · exact xors_nn1 a b w ha hb k3 k4 k5
      · exact xors_nn2 a b w ha hb k3 k4 k5
    · by_cases k5 : -1 - a.1 < b.2
      · exact xors_np1 a b w ha hb k3 (by omega) k5
      · exact xors_np2 a b w ha hb k3 (by omega) k5
  · by_cases k4 : b.2 < 0
    · by_cases k5 : -1 - b.1 < a.2
      · exact xors_pn1 a b w ha hb (by omega) k4 k5
      · exact xors_pn2 a b w ha hb (by omega) k4 k5
    · by_cases k5 : a.2 < b.2
      · exact xors_pp1 a b w ha hb (by omega) (by omega) k5
      · exact xors_pp2 a b w ha hb (by omega) (by omega) k5
end Go.Proofs.Ytpegiljajlljkaa
