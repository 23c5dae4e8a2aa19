import Derived.Test.YtfndahdnbkmkkaaFl
import Derived.Test.YtfndahdnbkmkkaaFk2
import Derived.Test.YtfndahdnbkmkkaaFg
namespace Go.Proofs.Ytfndahdnbkmkkaa
open Go.RowKit
theorem up4 : up 4#3 = 4 := rfl
theorem up1 : up 1#3 = 1 := rfl
theorem told_j (w : World) : Calls Try.prog 20 #[.agg #[.int .i64 (up (ofV 2).s), .bool (ofV 2).k, .int .i64 (ofV 2).n, .int .i64 (ofV 2).lo, .int .i64 (ofV 2).hi, .int .i64 (up (ofV 2).p)], .agg #[.int .i64 (up (ofV 4).s), .bool (ofV 4).k, .int .i64 (ofV 4).n, .int .i64 (ofV 4).lo, .int .i64 (ofV 4).hi, .int .i64 (up (ofV 4).p)]] w fun e w' => e = .returned (.agg #[.int .i64 4, .bool false, .int .i64 0, .int .i64 2, .int .i64 4, .int .i64 1]) ∧ Below w.heap.size w w' := by
  have h := join_V (ofV 2) (ofV 4) w (by decide) (by decide)
  have e : joinV (ofV 2) (ofV 4) = ⟨4#3, false, 0, 2, 4, 1#3⟩ := V.ext' (by decide) (by decide) (by decide) (by decide) (by decide) (by decide)
  rw [e] at h
  dsimp only at h
  rw [up4, up1] at h
  exact h
theorem told_m (w : World) : Calls Try.prog 10 #[.agg #[.int .i64 (up (ofV 2).s), .bool (ofV 2).k, .int .i64 (ofV 2).n, .int .i64 (ofV 2).lo, .int .i64 (ofV 2).hi, .int .i64 (up (ofV 2).p)], .agg #[.int .i64 (up (ofV 3).s), .bool (ofV 3).k, .int .i64 (ofV 3).n, .int .i64 (ofV 3).lo, .int .i64 (ofV 3).hi, .int .i64 (up (ofV 3).p)]] w fun e w' => e = .returned (.tuple #[.agg #[.int .i64 0, .bool false, .int .i64 0, .int .i64 0, .int .i64 0, .int .i64 0], .bool false]) ∧ Below w.heap.size w w' := by
  have h := meet_V (ofV 2) (ofV 3) w (by decide) (by decide)
  have e : meetV (ofV 2) (ofV 3) = (zeroV, false) := by unfold meetV; rw [if_neg (by decide)]
  rw [e] at h
  exact h
set_option maxRecDepth 100000 in
set_option maxHeartbeats 16000000 in
theorem told_any (w : World) : Calls Try.prog 12 #[] w fun e w' => e = .returned (.bool true) ∧ Below w.heap.size w w' := by
  have oo := of_V
  have tj := told_j
  have tm := told_m
  have rr := right_V
  have ta := any_V
  have hr : rightR (up anyV.s) anyV.k anyV.n anyV.lo anyV.hi (up anyV.p) = true := by decide +kernel
  have hz : rightR 0 false 0 0 0 0 = false := by decide +kernel
  generalize ofV = F at *
  generalize anyV = VA at *
  generalize rightR = RR at *
  go_enter Try.func12, Try.ntmps12
  go_upto_region 2 with (first | (go_at_call 14; refine (oo _ _).mono ?_; rintro e wB ⟨rfl, hB⟩; first | (have hAB := hA.trans (hB.mono hA.size); clear hA hB) | (have hA := hB; clear hB)) | (go_at_call 20; refine (tj _).mono ?_; rintro e wC ⟨rfl, hC⟩))
  go_name_world W hW
  have HA : Hid (Br W wC.heap.size 4 false 0 2 4 1 ∧ Below w.heap.size w W ∧ w.heap.size ≤ wC.heap.size) := by
    rw [← hW]
    have u2 := hAB.trans (hC.mono hAB.size)
    exact ⟨Br.new _ _ _ _ _ _ _ _, u2.alloc u2.size _, u2.size⟩
  clear hW hAB hC tj
  generalize wC.heap.size = T at *
  go_upto_region 3 with (first | (go_at_call 14; refine (oo _ _).mono ?_; rintro e wB ⟨rfl, hB⟩; first | (have hAB := hA.trans (hB.mono hA.size); clear hA hB) | (have hA := hB; clear hB)) | (go_at_call 10; refine (tm _).mono ?_; rintro e wC ⟨rfl, hC⟩))
  go_name_world W2 hW2
  have HB : Hid (Br W2 T 4 false 0 2 4 1 ∧ Below w.heap.size w W2) := by
    rw [← hW2]
    have u2 := hAB.trans (hC.mono hAB.size)
    have u3 := u2.alloc u2.size (.cells #[.int .i64 0, .bool false, .int .i64 0, .int .i64 0, .int .i64 0, .int .i64 0] 32)
    exact ⟨HA.out.1.keep u3, HA.out.2.1.trans (u3.mono HA.out.2.1.size)⟩
  clear hW2 hAB hC oo tm HA
  have a0 := HB.out.1.c0
  have a1 := HB.out.1.c1
  have a2 := HB.out.1.c2
  have a3 := HB.out.1.c3
  have a4 := HB.out.1.c4
  have a5 := HB.out.1.c5
  go_wp2_with (first | (go_at_call 16; refine (ta _).mono ?_; rintro e wA ⟨rfl, hA⟩) | (go_at_call 6; refine (rr _ _ _ _ _ _ _).mono ?_; rintro e wB ⟨rfl, hB⟩; have hAB := hA.trans (hB.mono hA.size); clear hA hB; have hA := hAB; clear hAB))
  go_ret
  exact ⟨rfl, HB.out.2.trans (hA.mono HB.out.2.size)⟩
end Go.Proofs.Ytfndahdnbkmkkaa
