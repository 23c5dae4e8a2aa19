import Derived.Test.YtpegiljajlljkaaTw
import Derived.Lib.ItoaWalk
import Derived.Deep.CutBlock
namespace Go.Proofs.Ytpegiljajlljkaa
open Go.RowKit
set_option maxRecDepth 100000 in
set_option maxHeartbeats 16000000 in
theorem told_any (w : World) : Calls Try.prog 14 #[] w fun e w' => e = .returned (.bool true) ∧ Below w.heap.size w w' := by
  have t1 : twoP 7 (-7, 9) (-2, 3) = ((-9, 9), true) := by decide +kernel
  have t2 : twoP 10 (0, 5) (0, 2) = ((0, 7), true) := by decide +kernel
  have s1 : Sp (-7, 9) := by unfold Sp; dsimp only; omega
  have s2 : Sp (-2, 3) := by unfold Sp; dsimp only; omega
  have s3 : Sp (0, 5) := by unfold Sp; dsimp only; omega
  have s4 : Sp (0, 2) := by unfold Sp; dsimp only; omega
  have c1 := fun w => two_any 7 (-7, 9) (-2, 3) w s1 s2
  have c2 := fun w => two_any 10 (0, 5) (0, 2) w s3 s4
  rw [t1] at c1
  rw [t2] at c2
  clear t1 t2 s1 s2 s3 s4
  go_enter Try.func14, Try.ntmps14
  go_upto_region 2 with (go_at_call 29; refine (c1 _).mono ?_; rintro e wA ⟨rfl, hA⟩)
  go_name_world W hW
  have HX : Hid (Bx W wA.heap.size (-9) 9 ∧ Below w.heap.size w W) := by
    rw [← hW]
    exact ⟨Bx.new _ _ _ _, hA.alloc hA.size _⟩
  clear hW hA c1
  generalize wA.heap.size = T at *
  go_upto_region 3 with (go_at_call 29; refine (c2 _).mono ?_; rintro e wB ⟨rfl, hB⟩)
  go_name_world W2 hW2
  have HX2 : Hid (Bx W2 T (-9) 9 ∧ Bx W2 wB.heap.size 0 7 ∧ Below w.heap.size w W2) := by
    rw [← hW2]
    have hB2 := HX.out.2.trans (hB.mono HX.out.2.size)
    exact ⟨(HX.out.1.keep hB).keep ((Below.refl _ _).alloc (Nat.le_refl _) _), Bx.new _ _ _ _, hB2.alloc hB2.size _⟩
  clear hW2 hB c2 HX
  generalize wB.heap.size = U at *
  have a0 := HX2.out.1.1
  have a1 := HX2.out.1.2
  have b0 := HX2.out.2.1.1
  have b1 := HX2.out.2.1.2
  have hW := HX2.out.2.2
  have hz := hW.size
  go_wp2_with (first | (go_at_call 17; refine (any_any _).mono ?_; rintro e w1 ⟨rfl, o1, rfl⟩) | (go_at_call 9; refine (right_any _ _ _).mono ?_; rintro e w1 ⟨rfl, o1, rfl⟩))
  go_ret
  exact ⟨rfl, (by repeat (first | exact Below.refl _ _ | (refine Below.drew ?_) | (refine below_drewN ?_ _) | (refine Below.setCell ?_ (by first | omega | (simp; done) | (simp; omega)) _) | (refine Below.alloc ?_ (by first | omega | (simp; done) | (simp; omega)) _) | (refine Below.trans ?_ (Below.mono (by assumption) (by first | omega | (simp; done) | (simp; omega))))))⟩
end Go.Proofs.Ytpegiljajlljkaa
