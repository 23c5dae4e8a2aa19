import Derived.Test.YtpegiljajlljkaaAb
import Derived.Test.YtpegiljajlljkaaSO
namespace Go.Proofs.Ytpegiljajlljkaa
open Go.RowKit
theorem hasR_in {s : Int × Int} {n : Int} (h : In s n) : hasR s.1 s.2 n = true := by
  unfold hasR
  rw [Bool.and_eq_true, decide_eq_true_iff, decide_eq_true_iff]
  exact h
theorem one_neg (a : Int × Int) (x : Int) (ha : Sp a) (hx : In a x) : (oneP 3 a).2 = true ∧ In (oneP 3 a).1 (wrap64 (-x)) := by
  unfold oneP
  rw [if_neg (by omega), if_pos rfl]
  unfold Sp at ha
  unfold In at hx
  split
  · refine ⟨rfl, ?_⟩
    rw [wrap_fit _ (by omega) (by omega)]
    unfold In
    dsimp only
    omega
  split
  · refine ⟨rfl, ?_⟩
    obtain rfl : x = -9223372036854775808 := by omega
    unfold In
    dsimp only
    have e : wrap64 (- -9223372036854775808) = -9223372036854775808 := by unfold wrap64; omega
    rw [e]
    omega
  · exact ⟨rfl, all_in _ (wrap_bd _).1 (wrap_bd _).2⟩
theorem one_move (a : Int × Int) (x : Int) (hx : In a x) : (oneP 2 a).2 = true ∧ In (oneP 2 a).1 x := by
  unfold oneP
  rw [if_pos rfl]
  exact ⟨rfl, hx⟩
theorem branch_in (a : Int × Int) (x : Int) (hx : In a x) : (branchP a (x != 0)).2 = true ∧ In (branchP a (x != 0)).1 x := by
  by_cases h : x = 0
  · subst h
    unfold In at hx
    show (brF a).2 = true ∧ In (brF a).1 0
    unfold brF
    rw [if_pos hx]
    exact ⟨rfl, Int.le_refl _, Int.le_refl _⟩
  · have e : (x != 0) = true := by rw [bne_iff_ne]; exact h
    rw [e]
    show (brT a).2 = true ∧ In (brT a).1 x
    unfold In at hx ⊢
    unfold brT
    split
    · omega
    split
    · refine ⟨rfl, ?_⟩; dsimp only; omega
    split
    · refine ⟨rfl, ?_⟩; dsimp only; omega
    · exact ⟨rfl, hx⟩
end Go.Proofs.Ytpegiljajlljkaa
