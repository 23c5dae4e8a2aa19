import Derived.Test.YthiacdbjlkpfgaaDoorG12
import Derived.Test.YthiacdbjlkpfgaaDoorG06
import Derived.Test.YthiacdbjlkpfgaaDoorG13
import Derived.Test.YthiacdbjlkpfgaaDoorG14
namespace Go.Proofs.YthiacdbjlkpfgaaDoor
open Go.RowKit
theorem op_cases (op : Int) (h : 4 ≤ op ∧ op ≤ 12) : op = 4 ∨ op = 5 ∨ op = 6 ∨ op = 7 ∨ op = 8 ∨ op = 9 ∨ op = 10 ∨ op = 11 ∨ op = 12 := by omega
theorem sg_in (T : BitVec 3) (r : Int) (h1 : r < 0 → bt T 0 = true) (h2 : r = 0 → bt T 1 = true) (h3 : 0 < r → bt T 2 = true) : hasS T r = true := by
  unfold hasS sg
  by_cases a : r < 0
  · have := h1 a
    rw [if_pos a]
    clear h1 h2 h3
    revert T; decide
  · rw [if_neg a]
    by_cases b : r = 0
    · have := h2 b
      rw [if_pos b]
      clear h1 h2 h3
      revert T; decide
    · have := h3 (by omega)
      rw [if_neg b]
      clear h1 h2 h3
      revert T; decide
theorem tdiv_sign (x y : Int) : (0 ≤ x → 0 < y → 0 ≤ x.tdiv y ∧ x.tdiv y ≤ x) ∧ (0 ≤ x → y < 0 → x.tdiv y ≤ 0 ∧ -x ≤ x.tdiv y) ∧ (x ≤ 0 → 0 < y → x.tdiv y ≤ 0 ∧ x ≤ x.tdiv y) ∧ (x ≤ 0 → y < 0 → 0 ≤ x.tdiv y ∧ x.tdiv y ≤ -x) := by
  have core : ∀ a b : Int, 0 ≤ a → 0 < b → 0 ≤ a.tdiv b ∧ a.tdiv b ≤ a := fun a b ha hb => by
    rw [Int.tdiv_eq_ediv_of_nonneg ha]
    exact ⟨Int.ediv_nonneg ha (by omega), Int.ediv_le_self _ ha⟩
  refine ⟨core x y, fun hx hy' => ?_, fun hx hy' => ?_, fun hx hy' => ?_⟩
  · have := core x (-y) hx (by omega)
    rw [Int.tdiv_neg] at this
    omega
  · have := core (-x) y (by omega) hy'
    rw [Int.neg_tdiv] at this
    omega
  · have := core (-x) (-y) (by omega) (by omega)
    rw [Int.neg_tdiv, Int.tdiv_neg] at this
    omega
theorem emod_le' (a b : Int) (ha : 0 ≤ a) (hb : 0 < b) : a % b ≤ a := by
  have h : 0 ≤ b * (a / b) := Int.mul_nonneg (by omega) (Int.ediv_nonneg ha (by omega))
  rw [Int.emod_def]
  omega
theorem tmod_sign (x y : Int) : (0 ≤ x → 0 ≤ x.tmod y ∧ x.tmod y ≤ x) ∧ (x ≤ 0 → x.tmod y ≤ 0 ∧ x ≤ x.tmod y) := by
  have core : ∀ a : Int, 0 ≤ a → 0 ≤ a.tmod y ∧ a.tmod y ≤ a := fun a ha => by
    refine ⟨Int.tmod_nonneg y ha, ?_⟩
    rw [Int.tmod_eq_emod_of_nonneg ha]
    by_cases hy : y = 0
    · simp [hy]
    · rcases Int.lt_or_gt_of_ne hy with h | h
      · rw [← Int.emod_neg]; exact emod_le' _ _ ha (by omega)
      · exact emod_le' _ _ ha (by omega)
  refine ⟨core x, fun hx => ?_⟩
  have := core (-x) (by omega)
  rw [Int.neg_tmod] at this
  omega
theorem sg_neg {x : Int} (h : x < 0) : sg x = 1 := by simp [sg, h]
theorem sg_zer {x : Int} (h : x = 0) : sg x = 2 := by rw [h]; rfl
theorem sg_ps {x : Int} (h : 0 < x) : sg x = 4 := sg_pos (by omega) (by omega)
set_option maxHeartbeats 1000000 in
theorem snd4 (x y : Int) (hx1 : -9223372036854775808 ≤ x) (hx2 : x ≤ 9223372036854775807) (hy1 : -9223372036854775808 ≤ y) (hy2 : y ≤ 9223372036854775807) : hasS (twoS 4 (sg x) (sg y)) (wrap64 (x + y)) = true := by
  have hxs : x < 0 ∨ x = 0 ∨ 0 < x := by omega
  have hys : y < 0 ∨ y = 0 ∨ 0 < y := by omega
  rcases hxs with a | a | a <;> rcases hys with b | b | b
  · rw [sg_neg a, sg_neg b, show twoS 4 1 1 = 7 by decide]
    exact sg_in _ _ (fun _ => rfl) (fun _ => rfl) (fun _ => rfl)
  · rw [sg_neg a, sg_zer b, show twoS 4 1 2 = 1 by decide]
    exact sg_in _ _ (fun _ => rfl) (fun h => by exfalso; unfold wrap64 at h; omega) (fun h => by exfalso; unfold wrap64 at h; omega)
  · rw [sg_neg a, sg_ps b, show twoS 4 1 4 = 7 by decide]
    exact sg_in _ _ (fun _ => rfl) (fun _ => rfl) (fun _ => rfl)
  · rw [sg_zer a, sg_neg b, show twoS 4 2 1 = 1 by decide]
    exact sg_in _ _ (fun _ => rfl) (fun h => by exfalso; unfold wrap64 at h; omega) (fun h => by exfalso; unfold wrap64 at h; omega)
  · rw [sg_zer a, sg_zer b, show twoS 4 2 2 = 2 by decide]
    exact sg_in _ _ (fun h => by exfalso; unfold wrap64 at h; omega) (fun _ => rfl) (fun h => by exfalso; unfold wrap64 at h; omega)
  · rw [sg_zer a, sg_ps b, show twoS 4 2 4 = 4 by decide]
    exact sg_in _ _ (fun h => by exfalso; unfold wrap64 at h; omega) (fun h => by exfalso; unfold wrap64 at h; omega) (fun _ => rfl)
  · rw [sg_ps a, sg_neg b, show twoS 4 4 1 = 7 by decide]
    exact sg_in _ _ (fun _ => rfl) (fun _ => rfl) (fun _ => rfl)
  · rw [sg_ps a, sg_zer b, show twoS 4 4 2 = 4 by decide]
    exact sg_in _ _ (fun h => by exfalso; unfold wrap64 at h; omega) (fun h => by exfalso; unfold wrap64 at h; omega) (fun _ => rfl)
  · rw [sg_ps a, sg_ps b, show twoS 4 4 4 = 5 by decide]
    exact sg_in _ _ (fun _ => rfl) (fun h => by exfalso; unfold wrap64 at h; omega) (fun _ => rfl)
set_option maxHeartbeats 1000000 in
theorem snd5 (x y : Int) (hx1 : -9223372036854775808 ≤ x) (hx2 : x ≤ 9223372036854775807) (hy1 : -9223372036854775808 ≤ y) (hy2 : y ≤ 9223372036854775807) : hasS (twoS 5 (sg x) (sg y)) (wrap64 (x - y)) = true := by
  have hxs : x < 0 ∨ x = 0 ∨ 0 < x := by omega
  have hys : y < 0 ∨ y = 0 ∨ 0 < y := by omega
  rcases hxs with a | a | a <;> rcases hys with b | b | b
  · rw [sg_neg a, sg_neg b, show twoS 5 1 1 = 7 by decide]
    exact sg_in _ _ (fun _ => rfl) (fun _ => rfl) (fun _ => rfl)
  · rw [sg_neg a, sg_zer b, show twoS 5 1 2 = 1 by decide]
    exact sg_in _ _ (fun _ => rfl) (fun h => by exfalso; unfold wrap64 at h; omega) (fun h => by exfalso; unfold wrap64 at h; omega)
  · rw [sg_neg a, sg_ps b, show twoS 5 1 4 = 5 by decide]
    exact sg_in _ _ (fun _ => rfl) (fun h => by exfalso; unfold wrap64 at h; omega) (fun _ => rfl)
  · rw [sg_zer a, sg_neg b, show twoS 5 2 1 = 5 by decide]
    exact sg_in _ _ (fun _ => rfl) (fun h => by exfalso; unfold wrap64 at h; omega) (fun _ => rfl)
  · rw [sg_zer a, sg_zer b, show twoS 5 2 2 = 2 by decide]
    exact sg_in _ _ (fun h => by exfalso; unfold wrap64 at h; omega) (fun _ => rfl) (fun h => by exfalso; unfold wrap64 at h; omega)
  · rw [sg_zer a, sg_ps b, show twoS 5 2 4 = 1 by decide]
    exact sg_in _ _ (fun _ => rfl) (fun h => by exfalso; unfold wrap64 at h; omega) (fun h => by exfalso; unfold wrap64 at h; omega)
  · rw [sg_ps a, sg_neg b, show twoS 5 4 1 = 5 by decide]
    exact sg_in _ _ (fun _ => rfl) (fun h => by exfalso; unfold wrap64 at h; omega) (fun _ => rfl)
  · rw [sg_ps a, sg_zer b, show twoS 5 4 2 = 4 by decide]
    exact sg_in _ _ (fun h => by exfalso; unfold wrap64 at h; omega) (fun h => by exfalso; unfold wrap64 at h; omega) (fun _ => rfl)
  · rw [sg_ps a, sg_ps b, show twoS 5 4 4 = 7 by decide]
    exact sg_in _ _ (fun _ => rfl) (fun _ => rfl) (fun _ => rfl)
set_option maxHeartbeats 1000000 in
theorem snd6 (x y : Int) (hx1 : -9223372036854775808 ≤ x) (hx2 : x ≤ 9223372036854775807) (hy1 : -9223372036854775808 ≤ y) (hy2 : y ≤ 9223372036854775807) : hasS (twoS 6 (sg x) (sg y)) (wrap64 (x * y)) = true := by
  have hxs : x < 0 ∨ x = 0 ∨ 0 < x := by omega
  have hys : y < 0 ∨ y = 0 ∨ 0 < y := by omega
  rcases hxs with a | a | a <;> rcases hys with b | b | b
  · rw [sg_neg a, sg_neg b, show twoS 6 1 1 = 7 by decide]
    exact sg_in _ _ (fun _ => rfl) (fun _ => rfl) (fun _ => rfl)
  · rw [sg_neg a, sg_zer b, show twoS 6 1 2 = 2 by decide]
    exact sg_in _ _ (fun h => by exfalso; (first | rw [a, Int.zero_mul] at h | rw [b, Int.mul_zero] at h); unfold wrap64 at h; omega) (fun _ => rfl) (fun h => by exfalso; (first | rw [a, Int.zero_mul] at h | rw [b, Int.mul_zero] at h); unfold wrap64 at h; omega)
  · rw [sg_neg a, sg_ps b, show twoS 6 1 4 = 7 by decide]
    exact sg_in _ _ (fun _ => rfl) (fun _ => rfl) (fun _ => rfl)
  · rw [sg_zer a, sg_neg b, show twoS 6 2 1 = 2 by decide]
    exact sg_in _ _ (fun h => by exfalso; (first | rw [a, Int.zero_mul] at h | rw [b, Int.mul_zero] at h); unfold wrap64 at h; omega) (fun _ => rfl) (fun h => by exfalso; (first | rw [a, Int.zero_mul] at h | rw [b, Int.mul_zero] at h); unfold wrap64 at h; omega)
  · rw [sg_zer a, sg_zer b, show twoS 6 2 2 = 2 by decide]
    exact sg_in _ _ (fun h => by exfalso; (first | rw [a, Int.zero_mul] at h | rw [b, Int.mul_zero] at h); unfold wrap64 at h; omega) (fun _ => rfl) (fun h => by exfalso; (first | rw [a, Int.zero_mul] at h | rw [b, Int.mul_zero] at h); unfold wrap64 at h; omega)
  · rw [sg_zer a, sg_ps b, show twoS 6 2 4 = 2 by decide]
    exact sg_in _ _ (fun h => by exfalso; (first | rw [a, Int.zero_mul] at h | rw [b, Int.mul_zero] at h); unfold wrap64 at h; omega) (fun _ => rfl) (fun h => by exfalso; (first | rw [a, Int.zero_mul] at h | rw [b, Int.mul_zero] at h); unfold wrap64 at h; omega)
  · rw [sg_ps a, sg_neg b, show twoS 6 4 1 = 7 by decide]
    exact sg_in _ _ (fun _ => rfl) (fun _ => rfl) (fun _ => rfl)
  · rw [sg_ps a, sg_zer b, show twoS 6 4 2 = 2 by decide]
    exact sg_in _ _ (fun h => by exfalso; (first | rw [a, Int.zero_mul] at h | rw [b, Int.mul_zero] at h); unfold wrap64 at h; omega) (fun _ => rfl) (fun h => by exfalso; (first | rw [a, Int.zero_mul] at h | rw [b, Int.mul_zero] at h); unfold wrap64 at h; omega)
  · rw [sg_ps a, sg_ps b, show twoS 6 4 4 = 7 by decide]
    exact sg_in _ _ (fun _ => rfl) (fun _ => rfl) (fun _ => rfl)
set_option maxHeartbeats 1000000 in
theorem snd7 (x y : Int) (hx1 : -9223372036854775808 ≤ x) (hx2 : x ≤ 9223372036854775807) (hy1 : -9223372036854775808 ≤ y) (hy2 : y ≤ 9223372036854775807) (h0 : y ≠ 0) : hasS (twoS 7 (sg x) (sg y)) (wrap64 (x.tdiv y)) = true := by
  have t := tdiv_sign x y
  have hxs : x < 0 ∨ x = 0 ∨ 0 < x := by omega
  have hys : y < 0 ∨ y = 0 ∨ 0 < y := by omega
  rcases hxs with a | a | a <;> rcases hys with b | b | b
  · rw [sg_neg a, sg_neg b, show twoS 7 1 1 = 7 by decide]
    exact sg_in _ _ (fun _ => rfl) (fun _ => rfl) (fun _ => rfl)
  · exact absurd b h0
  · rw [sg_neg a, sg_ps b, show twoS 7 1 4 = 3 by decide]
    exact sg_in _ _ (fun _ => rfl) (fun _ => rfl) (fun h => by exfalso; unfold wrap64 at h; omega)
  · rw [sg_zer a, sg_neg b, show twoS 7 2 1 = 2 by decide]
    exact sg_in _ _ (fun h => by exfalso; unfold wrap64 at h; omega) (fun _ => rfl) (fun h => by exfalso; unfold wrap64 at h; omega)
  · exact absurd b h0
  · rw [sg_zer a, sg_ps b, show twoS 7 2 4 = 2 by decide]
    exact sg_in _ _ (fun h => by exfalso; unfold wrap64 at h; omega) (fun _ => rfl) (fun h => by exfalso; unfold wrap64 at h; omega)
  · rw [sg_ps a, sg_neg b, show twoS 7 4 1 = 3 by decide]
    exact sg_in _ _ (fun _ => rfl) (fun _ => rfl) (fun h => by exfalso; unfold wrap64 at h; omega)
  · exact absurd b h0
  · rw [sg_ps a, sg_ps b, show twoS 7 4 4 = 6 by decide]
    exact sg_in _ _ (fun h => by exfalso; unfold wrap64 at h; omega) (fun _ => rfl) (fun _ => rfl)
set_option maxHeartbeats 1000000 in
theorem snd8 (x y : Int) (hx1 : -9223372036854775808 ≤ x) (hx2 : x ≤ 9223372036854775807) (hy1 : -9223372036854775808 ≤ y) (hy2 : y ≤ 9223372036854775807) (h0 : y ≠ 0) : hasS (twoS 8 (sg x) (sg y)) (x.tmod y) = true := by
  have t := tmod_sign x y
  have hxs : x < 0 ∨ x = 0 ∨ 0 < x := by omega
  have hys : y < 0 ∨ y = 0 ∨ 0 < y := by omega
  rcases hxs with a | a | a <;> rcases hys with b | b | b
  · rw [sg_neg a, sg_neg b, show twoS 8 1 1 = 3 by decide]
    exact sg_in _ _ (fun _ => rfl) (fun _ => rfl) (fun h => by exfalso; omega)
  · exact absurd b h0
  · rw [sg_neg a, sg_ps b, show twoS 8 1 4 = 3 by decide]
    exact sg_in _ _ (fun _ => rfl) (fun _ => rfl) (fun h => by exfalso; omega)
  · rw [sg_zer a, sg_neg b, show twoS 8 2 1 = 2 by decide]
    exact sg_in _ _ (fun h => by exfalso; omega) (fun _ => rfl) (fun h => by exfalso; omega)
  · exact absurd b h0
  · rw [sg_zer a, sg_ps b, show twoS 8 2 4 = 2 by decide]
    exact sg_in _ _ (fun h => by exfalso; omega) (fun _ => rfl) (fun h => by exfalso; omega)
  · rw [sg_ps a, sg_neg b, show twoS 8 4 1 = 6 by decide]
    exact sg_in _ _ (fun h => by exfalso; omega) (fun _ => rfl) (fun _ => rfl)
  · exact absurd b h0
  · rw [sg_ps a, sg_ps b, show twoS 8 4 4 = 6 by decide]
    exact sg_in _ _ (fun h => by exfalso; omega) (fun _ => rfl) (fun _ => rfl)
set_option maxHeartbeats 1000000 in
theorem snd9 (x y : Int) (hx1 : -9223372036854775808 ≤ x) (hx2 : x ≤ 9223372036854775807) (hy1 : -9223372036854775808 ≤ y) (hy2 : y ≤ 9223372036854775807) : hasS (twoS 9 (sg x) (sg y)) (bits .and .i64 x y) = true := by
  have t := and_neg x y hx1 hx2 hy1 hy2
  have hxs : x < 0 ∨ x = 0 ∨ 0 < x := by omega
  have hys : y < 0 ∨ y = 0 ∨ 0 < y := by omega
  rcases hxs with a | a | a <;> rcases hys with b | b | b
  · rw [sg_neg a, sg_neg b, show twoS 9 1 1 = 1 by decide]
    exact sg_in _ _ (fun _ => rfl) (fun h => by exfalso; omega) (fun h => by exfalso; omega)
  · rw [sg_neg a, sg_zer b, show twoS 9 1 2 = 2 by decide]
    exact sg_in _ _ (fun h => by exfalso; (first | rw [a, zero_and] at h | rw [b, and_zero] at h); omega) (fun _ => rfl) (fun h => by exfalso; (first | rw [a, zero_and] at h | rw [b, and_zero] at h); omega)
  · rw [sg_neg a, sg_ps b, show twoS 9 1 4 = 6 by decide]
    exact sg_in _ _ (fun h => by exfalso; omega) (fun _ => rfl) (fun _ => rfl)
  · rw [sg_zer a, sg_neg b, show twoS 9 2 1 = 2 by decide]
    exact sg_in _ _ (fun h => by exfalso; (first | rw [a, zero_and] at h | rw [b, and_zero] at h); omega) (fun _ => rfl) (fun h => by exfalso; (first | rw [a, zero_and] at h | rw [b, and_zero] at h); omega)
  · rw [sg_zer a, sg_zer b, show twoS 9 2 2 = 2 by decide]
    exact sg_in _ _ (fun h => by exfalso; (first | rw [a, zero_and] at h | rw [b, and_zero] at h); omega) (fun _ => rfl) (fun h => by exfalso; (first | rw [a, zero_and] at h | rw [b, and_zero] at h); omega)
  · rw [sg_zer a, sg_ps b, show twoS 9 2 4 = 2 by decide]
    exact sg_in _ _ (fun h => by exfalso; (first | rw [a, zero_and] at h | rw [b, and_zero] at h); omega) (fun _ => rfl) (fun h => by exfalso; (first | rw [a, zero_and] at h | rw [b, and_zero] at h); omega)
  · rw [sg_ps a, sg_neg b, show twoS 9 4 1 = 6 by decide]
    exact sg_in _ _ (fun h => by exfalso; omega) (fun _ => rfl) (fun _ => rfl)
  · rw [sg_ps a, sg_zer b, show twoS 9 4 2 = 2 by decide]
    exact sg_in _ _ (fun h => by exfalso; (first | rw [a, zero_and] at h | rw [b, and_zero] at h); omega) (fun _ => rfl) (fun h => by exfalso; (first | rw [a, zero_and] at h | rw [b, and_zero] at h); omega)
  · rw [sg_ps a, sg_ps b, show twoS 9 4 4 = 6 by decide]
    exact sg_in _ _ (fun h => by exfalso; omega) (fun _ => rfl) (fun _ => rfl)
set_option maxHeartbeats 1000000 in
theorem snd10 (x y : Int) (hx1 : -9223372036854775808 ≤ x) (hx2 : x ≤ 9223372036854775807) (hy1 : -9223372036854775808 ≤ y) (hy2 : y ≤ 9223372036854775807) : hasS (twoS 10 (sg x) (sg y)) (bits .xor .i64 x y) = true := by
  have t := xor_neg x y hx1 hx2 hy1 hy2
  have hxs : x < 0 ∨ x = 0 ∨ 0 < x := by omega
  have hys : y < 0 ∨ y = 0 ∨ 0 < y := by omega
  rcases hxs with a | a | a <;> rcases hys with b | b | b
  · rw [sg_neg a, sg_neg b, show twoS 10 1 1 = 6 by decide]
    exact sg_in _ _ (fun h => by exfalso; omega) (fun _ => rfl) (fun _ => rfl)
  · rw [sg_neg a, sg_zer b, show twoS 10 1 2 = 1 by decide]
    exact sg_in _ _ (fun _ => rfl) (fun h => by exfalso; rw [b, xor_zero x hx1 hx2] at h; omega) (fun h => by exfalso; rw [b, xor_zero x hx1 hx2] at h; omega)
  · rw [sg_neg a, sg_ps b, show twoS 10 1 4 = 1 by decide]
    exact sg_in _ _ (fun _ => rfl) (fun h => by exfalso; omega) (fun h => by exfalso; omega)
  · rw [sg_zer a, sg_neg b, show twoS 10 2 1 = 1 by decide]
    exact sg_in _ _ (fun _ => rfl) (fun h => by exfalso; rw [a, zero_xor y hy1 hy2] at h; omega) (fun h => by exfalso; rw [a, zero_xor y hy1 hy2] at h; omega)
  · rw [sg_zer a, sg_zer b, show twoS 10 2 2 = 2 by decide]
    exact sg_in _ _ (fun h => by exfalso; rw [a, zero_xor y hy1 hy2] at h; omega) (fun _ => rfl) (fun h => by exfalso; rw [a, zero_xor y hy1 hy2] at h; omega)
  · rw [sg_zer a, sg_ps b, show twoS 10 2 4 = 4 by decide]
    exact sg_in _ _ (fun h => by exfalso; rw [a, zero_xor y hy1 hy2] at h; omega) (fun h => by exfalso; rw [a, zero_xor y hy1 hy2] at h; omega) (fun _ => rfl)
  · rw [sg_ps a, sg_neg b, show twoS 10 4 1 = 1 by decide]
    exact sg_in _ _ (fun _ => rfl) (fun h => by exfalso; omega) (fun h => by exfalso; omega)
  · rw [sg_ps a, sg_zer b, show twoS 10 4 2 = 4 by decide]
    exact sg_in _ _ (fun h => by exfalso; rw [b, xor_zero x hx1 hx2] at h; omega) (fun h => by exfalso; rw [b, xor_zero x hx1 hx2] at h; omega) (fun _ => rfl)
  · rw [sg_ps a, sg_ps b, show twoS 10 4 4 = 6 by decide]
    exact sg_in _ _ (fun h => by exfalso; omega) (fun _ => rfl) (fun _ => rfl)
set_option maxHeartbeats 1000000 in
theorem snd11 (x y : Int) (hx1 : -9223372036854775808 ≤ x) (hx2 : x ≤ 9223372036854775807) (hy1 : -9223372036854775808 ≤ y) (hy2 : y ≤ 9223372036854775807) : hasS (twoS 11 (sg x) (sg y)) ((if x < y then 1 else 0 : Int)) = true := by
  have hxs : x < 0 ∨ x = 0 ∨ 0 < x := by omega
  have hys : y < 0 ∨ y = 0 ∨ 0 < y := by omega
  rcases hxs with a | a | a <;> rcases hys with b | b | b
  · rw [sg_neg a, sg_neg b, show twoS 11 1 1 = 6 by decide]
    exact sg_in _ _ (fun h => by exfalso; split at h <;> omega) (fun _ => rfl) (fun _ => rfl)
  · rw [sg_neg a, sg_zer b, show twoS 11 1 2 = 4 by decide]
    exact sg_in _ _ (fun h => by exfalso; split at h <;> omega) (fun h => by exfalso; split at h <;> omega) (fun _ => rfl)
  · rw [sg_neg a, sg_ps b, show twoS 11 1 4 = 4 by decide]
    exact sg_in _ _ (fun h => by exfalso; split at h <;> omega) (fun h => by exfalso; split at h <;> omega) (fun _ => rfl)
  · rw [sg_zer a, sg_neg b, show twoS 11 2 1 = 2 by decide]
    exact sg_in _ _ (fun h => by exfalso; split at h <;> omega) (fun _ => rfl) (fun h => by exfalso; split at h <;> omega)
  · rw [sg_zer a, sg_zer b, show twoS 11 2 2 = 2 by decide]
    exact sg_in _ _ (fun h => by exfalso; split at h <;> omega) (fun _ => rfl) (fun h => by exfalso; split at h <;> omega)
  · rw [sg_zer a, sg_ps b, show twoS 11 2 4 = 4 by decide]
    exact sg_in _ _ (fun h => by exfalso; split at h <;> omega) (fun h => by exfalso; split at h <;> omega) (fun _ => rfl)
  · rw [sg_ps a, sg_neg b, show twoS 11 4 1 = 2 by decide]
    exact sg_in _ _ (fun h => by exfalso; split at h <;> omega) (fun _ => rfl) (fun h => by exfalso; split at h <;> omega)
  · rw [sg_ps a, sg_zer b, show twoS 11 4 2 = 2 by decide]
    exact sg_in _ _ (fun h => by exfalso; split at h <;> omega) (fun _ => rfl) (fun h => by exfalso; split at h <;> omega)
  · rw [sg_ps a, sg_ps b, show twoS 11 4 4 = 6 by decide]
    exact sg_in _ _ (fun h => by exfalso; split at h <;> omega) (fun _ => rfl) (fun _ => rfl)
set_option maxHeartbeats 1000000 in
theorem snd12 (x y : Int) (hx1 : -9223372036854775808 ≤ x) (hx2 : x ≤ 9223372036854775807) (hy1 : -9223372036854775808 ≤ y) (hy2 : y ≤ 9223372036854775807) : hasS (twoS 12 (sg x) (sg y)) ((if x = y then 1 else 0 : Int)) = true := by
  have hxs : x < 0 ∨ x = 0 ∨ 0 < x := by omega
  have hys : y < 0 ∨ y = 0 ∨ 0 < y := by omega
  rcases hxs with a | a | a <;> rcases hys with b | b | b
  · rw [sg_neg a, sg_neg b, show twoS 12 1 1 = 6 by decide]
    exact sg_in _ _ (fun h => by exfalso; split at h <;> omega) (fun _ => rfl) (fun _ => rfl)
  · rw [sg_neg a, sg_zer b, show twoS 12 1 2 = 2 by decide]
    exact sg_in _ _ (fun h => by exfalso; split at h <;> omega) (fun _ => rfl) (fun h => by exfalso; split at h <;> omega)
  · rw [sg_neg a, sg_ps b, show twoS 12 1 4 = 2 by decide]
    exact sg_in _ _ (fun h => by exfalso; split at h <;> omega) (fun _ => rfl) (fun h => by exfalso; split at h <;> omega)
  · rw [sg_zer a, sg_neg b, show twoS 12 2 1 = 2 by decide]
    exact sg_in _ _ (fun h => by exfalso; split at h <;> omega) (fun _ => rfl) (fun h => by exfalso; split at h <;> omega)
  · rw [sg_zer a, sg_zer b, show twoS 12 2 2 = 4 by decide]
    exact sg_in _ _ (fun h => by exfalso; split at h <;> omega) (fun h => by exfalso; split at h <;> omega) (fun _ => rfl)
  · rw [sg_zer a, sg_ps b, show twoS 12 2 4 = 2 by decide]
    exact sg_in _ _ (fun h => by exfalso; split at h <;> omega) (fun _ => rfl) (fun h => by exfalso; split at h <;> omega)
  · rw [sg_ps a, sg_neg b, show twoS 12 4 1 = 2 by decide]
    exact sg_in _ _ (fun h => by exfalso; split at h <;> omega) (fun _ => rfl) (fun h => by exfalso; split at h <;> omega)
  · rw [sg_ps a, sg_zer b, show twoS 12 4 2 = 2 by decide]
    exact sg_in _ _ (fun h => by exfalso; split at h <;> omega) (fun _ => rfl) (fun h => by exfalso; split at h <;> omega)
  · rw [sg_ps a, sg_ps b, show twoS 12 4 4 = 6 by decide]
    exact sg_in _ _ (fun h => by exfalso; split at h <;> omega) (fun _ => rfl) (fun _ => rfl)
/-- the sign of what two numbers come to -/
theorem snd_core (op x y : Int) (hx : i64 x) (hy : i64 y) (hok : (arith op x y).2 = true) : hasS (twoS op (sg x) (sg y)) (arith op x y).1 = true := by
  unfold i64 at hx hy
  obtain ⟨hx1, hx2⟩ := hx
  obtain ⟨hy1, hy2⟩ := hy
  by_cases hop : 4 ≤ op ∧ op ≤ 12
  · rcases op_cases op hop with rfl | rfl | rfl | rfl | rfl | rfl | rfl | rfl | rfl
    · exact snd4 x y hx1 hx2 hy1 hy2
    · exact snd5 x y hx1 hx2 hy1 hy2
    · exact snd6 x y hx1 hx2 hy1 hy2
    · have h0 : y ≠ 0 := fun h => by rw [h] at hok; simp [arith] at hok
      have e : (arith 7 x y).1 = wrap64 (x.tdiv y) := by simp [arith, h0]
      rw [e]; exact snd7 x y hx1 hx2 hy1 hy2 h0
    · have h0 : y ≠ 0 := fun h => by rw [h] at hok; simp [arith] at hok
      have e : (arith 8 x y).1 = x.tmod y := by simp [arith, h0]
      rw [e]; exact snd8 x y hx1 hx2 hy1 hy2 h0
    · exact snd9 x y hx1 hx2 hy1 hy2
    · exact snd10 x y hx1 hx2 hy1 hy2
    · exact snd11 x y hx1 hx2 hy1 hy2
    · exact snd12 x y hx1 hx2 hy1 hy2
  · have : arith op x y = (0, false) := by
      unfold arith
      rw [if_neg (by omega), if_neg (by omega), if_neg (by omega), if_neg (by omega), if_neg (by omega), if_neg (by omega), if_neg (by omega), if_neg (by omega), if_neg (by omega)]
    rw [this] at hok
    cases hok
theorem sjoin1 : ∀ o : Fin 9, ∀ x m y : BitVec 3, sAll o.val (x ||| m) y 3 = sAll o.val x y 3 ||| sAll o.val m y 3 := by decide +kernel
theorem sjoin2 : ∀ o : Fin 9, ∀ x y m : BitVec 3, sAll o.val x (y ||| m) 3 = sAll o.val x y 3 ||| sAll o.val x m 3 := by decide +kernel
theorem two_join1 (op : Int) (x m y : BitVec 3) : twoS op (x ||| m) y = twoS op x y ||| twoS op m y := by
  unfold twoS
  by_cases h : 4 ≤ op ∧ op ≤ 12
  · rw [if_pos h, if_pos h, if_pos h]
    exact sjoin1 ⟨(op - 4).toNat, by omega⟩ x m y
  · rw [if_neg h, if_neg h, if_neg h]; rfl
theorem two_join2 (op : Int) (x y m : BitVec 3) : twoS op x (y ||| m) = twoS op x y ||| twoS op x m := by
  unfold twoS
  by_cases h : 4 ≤ op ∧ op ≤ 12
  · rw [if_pos h, if_pos h, if_pos h]
    exact sjoin2 ⟨(op - 4).toNat, by omega⟩ x y m
  · rw [if_neg h, if_neg h, if_neg h]; rfl
theorem has_more (T U : BitVec 3) (r : Int) (h : hasS T r = true) : hasS (T ||| U) r = true := by
  unfold hasS at h ⊢
  generalize sg r = s at *
  revert T U s; decide
theorem has_more' (T U : BitVec 3) (r : Int) (h : hasS T r = true) : hasS (U ||| T) r = true := by rw [BitVec.or_comm]; exact has_more T U r h
theorem snd_any (op x y : Int) (A B : BitVec 3) (hx : i64 x) (hy : i64 y) (hok : (arith op x y).2 = true) : hasS (twoS op (A ||| sg x) (B ||| sg y)) (arith op x y).1 = true := by
  rw [two_join1, two_join2 op (sg x)]
  exact has_more' _ _ _ (has_more' _ _ _ (snd_core op x y hx hy hok))
theorem has_self (A : BitVec 3) (x : Int) : hasS (A ||| sg x) x = true := by
  apply has_more'
  unfold hasS sg
  split
  · rfl
  · split <;> rfl
theorem one2_has (A : BitVec 3) (x : Int) : hasS (oneS 2 (A ||| sg x)) x = true := has_self A x
theorem opp_join : ∀ x y : BitVec 3, oppS (x ||| y) = oppS x ||| oppS y := by decide
theorem one3_has (A : BitVec 3) (x : Int) (hx : i64 x) : hasS (oneS 3 (A ||| sg x)) (wrap64 (-x)) = true := by
  show hasS (oppS (A ||| sg x)) _ = true
  rw [opp_join]
  apply has_more'
  unfold i64 at hx
  have hxs : x < 0 ∨ x = 0 ∨ 0 < x := by omega
  rcases hxs with a | a | a
  · rw [sg_neg a, show oppS 1 = 5 by decide]
    exact sg_in _ _ (fun _ => rfl) (fun h => by exfalso; unfold wrap64 at h; omega) (fun _ => rfl)
  · rw [a]; decide +kernel
  · rw [sg_ps a, show oppS 4 = 1 by decide]
    exact sg_in _ _ (fun _ => rfl) (fun h => by exfalso; unfold wrap64 at h; omega) (fun h => by exfalso; unfold wrap64 at h; omega)
theorem br_join : ∀ (x y : BitVec 3) (b : Bool), branchS (x ||| y) b = branchS x b ||| branchS y b := by decide
theorem br_has (A : BitVec 3) (x : Int) : hasS (branchS (A ||| sg x) (x != 0)) x = true := by
  rw [br_join]
  apply has_more'
  have hxs : x < 0 ∨ x = 0 ∨ 0 < x := by omega
  rcases hxs with a | a | a
  · rw [show (x != 0) = true by simp; omega, sg_neg a]; unfold hasS; rw [sg_neg a]; decide
  · rw [a]; decide
  · rw [show (x != 0) = true by simp; omega, sg_ps a]; unfold hasS; rw [sg_ps a]; decide
theorem within_or : ∀ x y : BitVec 3, withinS x (x ||| y) = true := by decide
theorem one_join (op : Int) (x y : BitVec 3) : oneS op (x ||| y) = oneS op x ||| oneS op y := by
  unfold oneS
  split
  · rfl
  · split
    · exact opp_join x y
    · rfl
theorem br_both : ∀ x : BitVec 3, branchS x true ||| branchS x false = x := by decide
end Go.Proofs.YthiacdbjlkpfgaaDoor
namespace Go.Proofs.YthiacdbjlkpfgaaDoor
open Go.RowKit
theorem mod2_low (n : Int) : n % 2 = up (low n &&& 1) := by rw [← and_mod2, and_up _ _ (by omega) (by omega)]; rfl
theorem pr_in (T : BitVec 3) (r : Int) (h1 : r % 2 = 0 → bt T 0 = true) (h2 : r % 2 = 1 → bt T 1 = true) : hasP T r = true := by
  unfold hasP pr
  by_cases a : r % 2 = 0
  · have := h1 a
    rw [if_pos a]
    clear h1 h2
    revert T; decide
  · have := h2 (by omega)
    rw [if_neg a]
    clear h1 h2
    revert T; decide
theorem pr_even {x : Int} (h : x % 2 = 0) : pr x = 1 := by simp [pr, h]
theorem pr_odd {x : Int} (h : x % 2 = 1) : pr x = 2 := by simp [pr, h]
theorem wrap_mod2 (n : Int) : wrap64 n % 2 = n % 2 := by unfold wrap64; omega
theorem bit_and : ∀ p q : BitVec 3, (up (p &&& 1) = 0 → up (p &&& q &&& 1) = 0) ∧ (up (q &&& 1) = 0 → up (p &&& q &&& 1) = 0) ∧ (up (p &&& 1) = 1 → up (q &&& 1) = 1 → up (p &&& q &&& 1) = 1) := by decide
theorem bit_xor : ∀ p q : BitVec 3, (up (p &&& 1) = up (q &&& 1) → up ((p ^^^ q) &&& 1) = 0) ∧ (up (p &&& 1) ≠ up (q &&& 1) → up ((p ^^^ q) &&& 1) = 1) := by decide
theorem psnd4 (x y : Int) : hasP (twoQ 4 (pr x) (pr y)) (wrap64 (x + y)) = true := by
  have t := wrap_mod2 (x + y)
  rcases pr_or x with a | a <;> rcases pr_or y with b | b
  · rw [pr_even a, pr_even b, show twoQ 4 1 1 = 1 by decide]
    exact pr_in _ _ (fun _ => rfl) (fun h => by exfalso; omega)
  · rw [pr_even a, pr_odd b, show twoQ 4 1 2 = 2 by decide]
    exact pr_in _ _ (fun h => by exfalso; omega) (fun _ => rfl)
  · rw [pr_odd a, pr_even b, show twoQ 4 2 1 = 2 by decide]
    exact pr_in _ _ (fun h => by exfalso; omega) (fun _ => rfl)
  · rw [pr_odd a, pr_odd b, show twoQ 4 2 2 = 1 by decide]
    exact pr_in _ _ (fun _ => rfl) (fun h => by exfalso; omega)
theorem psnd5 (x y : Int) : hasP (twoQ 5 (pr x) (pr y)) (wrap64 (x - y)) = true := by
  have t := wrap_mod2 (x - y)
  rcases pr_or x with a | a <;> rcases pr_or y with b | b
  · rw [pr_even a, pr_even b, show twoQ 5 1 1 = 1 by decide]
    exact pr_in _ _ (fun _ => rfl) (fun h => by exfalso; omega)
  · rw [pr_even a, pr_odd b, show twoQ 5 1 2 = 2 by decide]
    exact pr_in _ _ (fun h => by exfalso; omega) (fun _ => rfl)
  · rw [pr_odd a, pr_even b, show twoQ 5 2 1 = 2 by decide]
    exact pr_in _ _ (fun h => by exfalso; omega) (fun _ => rfl)
  · rw [pr_odd a, pr_odd b, show twoQ 5 2 2 = 1 by decide]
    exact pr_in _ _ (fun _ => rfl) (fun h => by exfalso; omega)
theorem psnd6 (x y : Int) : hasP (twoQ 6 (pr x) (pr y)) (wrap64 (x * y)) = true := by
  have t := wrap_mod2 (x * y)
  rw [Int.mul_emod] at t
  rcases pr_or x with a | a <;> rcases pr_or y with b | b
  · rw [pr_even a, pr_even b, show twoQ 6 1 1 = 1 by decide]
    exact pr_in _ _ (fun _ => rfl) (fun h => by exfalso; rw [a, b] at t; omega)
  · rw [pr_even a, pr_odd b, show twoQ 6 1 2 = 1 by decide]
    exact pr_in _ _ (fun _ => rfl) (fun h => by exfalso; rw [a, b] at t; omega)
  · rw [pr_odd a, pr_even b, show twoQ 6 2 1 = 1 by decide]
    exact pr_in _ _ (fun _ => rfl) (fun h => by exfalso; rw [a, b] at t; omega)
  · rw [pr_odd a, pr_odd b, show twoQ 6 2 2 = 2 by decide]
    exact pr_in _ _ (fun h => by exfalso; rw [a, b] at t; omega) (fun _ => rfl)
theorem psnd7 (x y : Int) : hasP (twoQ 7 (pr x) (pr y)) (wrap64 (x.tdiv y)) = true := by
  rcases pr_or x with a | a <;> rcases pr_or y with b | b
  · rw [pr_even a, pr_even b, show twoQ 7 1 1 = 3 by decide]
    exact pr_in _ _ (fun _ => rfl) (fun _ => rfl)
  · rw [pr_even a, pr_odd b, show twoQ 7 1 2 = 3 by decide]
    exact pr_in _ _ (fun _ => rfl) (fun _ => rfl)
  · rw [pr_odd a, pr_even b, show twoQ 7 2 1 = 3 by decide]
    exact pr_in _ _ (fun _ => rfl) (fun _ => rfl)
  · rw [pr_odd a, pr_odd b, show twoQ 7 2 2 = 3 by decide]
    exact pr_in _ _ (fun _ => rfl) (fun _ => rfl)
theorem psnd8 (x y : Int) : hasP (twoQ 8 (pr x) (pr y)) (x.tmod y) = true := by
  have t : y % 2 = 0 → x.tmod y % 2 = x % 2 := fun h => by
    obtain ⟨z, hz⟩ : ∃ z, y = 2 * z := ⟨y / 2, by omega⟩
    rw [Int.tmod_def, hz, Int.mul_assoc]
    omega
  rcases pr_or x with a | a <;> rcases pr_or y with b | b
  · rw [pr_even a, pr_even b, show twoQ 8 1 1 = 1 by decide]
    exact pr_in _ _ (fun _ => rfl) (fun h => by exfalso; omega)
  · rw [pr_even a, pr_odd b, show twoQ 8 1 2 = 3 by decide]
    exact pr_in _ _ (fun _ => rfl) (fun _ => rfl)
  · rw [pr_odd a, pr_even b, show twoQ 8 2 1 = 2 by decide]
    exact pr_in _ _ (fun h => by exfalso; omega) (fun _ => rfl)
  · rw [pr_odd a, pr_odd b, show twoQ 8 2 2 = 3 by decide]
    exact pr_in _ _ (fun _ => rfl) (fun _ => rfl)
theorem psnd9 (x y : Int) : hasP (twoQ 9 (pr x) (pr y)) (bits .and .i64 x y) = true := by
  have t : bits .and .i64 x y % 2 = up (low x &&& low y &&& 1) := by rw [mod2_low, low_and]
  have u := bit_and (low x) (low y)
  rw [← mod2_low, ← mod2_low, ← t] at u
  rcases pr_or x with a | a <;> rcases pr_or y with b | b
  · rw [pr_even a, pr_even b, show twoQ 9 1 1 = 1 by decide]
    exact pr_in _ _ (fun _ => rfl) (fun h => by exfalso; omega)
  · rw [pr_even a, pr_odd b, show twoQ 9 1 2 = 1 by decide]
    exact pr_in _ _ (fun _ => rfl) (fun h => by exfalso; omega)
  · rw [pr_odd a, pr_even b, show twoQ 9 2 1 = 1 by decide]
    exact pr_in _ _ (fun _ => rfl) (fun h => by exfalso; omega)
  · rw [pr_odd a, pr_odd b, show twoQ 9 2 2 = 2 by decide]
    exact pr_in _ _ (fun h => by exfalso; omega) (fun _ => rfl)
theorem psnd10 (x y : Int) : hasP (twoQ 10 (pr x) (pr y)) (bits .xor .i64 x y) = true := by
  have t : bits .xor .i64 x y % 2 = up ((low x ^^^ low y) &&& 1) := by rw [mod2_low, low_xor]
  have u := bit_xor (low x) (low y)
  rw [← mod2_low, ← mod2_low, ← t] at u
  rcases pr_or x with a | a <;> rcases pr_or y with b | b
  · rw [pr_even a, pr_even b, show twoQ 10 1 1 = 1 by decide]
    exact pr_in _ _ (fun _ => rfl) (fun h => by exfalso; omega)
  · rw [pr_even a, pr_odd b, show twoQ 10 1 2 = 2 by decide]
    exact pr_in _ _ (fun h => by exfalso; omega) (fun _ => rfl)
  · rw [pr_odd a, pr_even b, show twoQ 10 2 1 = 2 by decide]
    exact pr_in _ _ (fun h => by exfalso; omega) (fun _ => rfl)
  · rw [pr_odd a, pr_odd b, show twoQ 10 2 2 = 1 by decide]
    exact pr_in _ _ (fun _ => rfl) (fun h => by exfalso; omega)
theorem psnd11 (x y : Int) : hasP (twoQ 11 (pr x) (pr y)) ((if x < y then 1 else 0 : Int)) = true := by
  rcases pr_or x with a | a <;> rcases pr_or y with b | b
  · rw [pr_even a, pr_even b, show twoQ 11 1 1 = 3 by decide]
    exact pr_in _ _ (fun _ => rfl) (fun _ => rfl)
  · rw [pr_even a, pr_odd b, show twoQ 11 1 2 = 3 by decide]
    exact pr_in _ _ (fun _ => rfl) (fun _ => rfl)
  · rw [pr_odd a, pr_even b, show twoQ 11 2 1 = 3 by decide]
    exact pr_in _ _ (fun _ => rfl) (fun _ => rfl)
  · rw [pr_odd a, pr_odd b, show twoQ 11 2 2 = 3 by decide]
    exact pr_in _ _ (fun _ => rfl) (fun _ => rfl)
theorem psnd12 (x y : Int) : hasP (twoQ 12 (pr x) (pr y)) ((if x = y then 1 else 0 : Int)) = true := by
  rcases pr_or x with a | a <;> rcases pr_or y with b | b
  · rw [pr_even a, pr_even b, show twoQ 12 1 1 = 3 by decide]
    exact pr_in _ _ (fun _ => rfl) (fun _ => rfl)
  · rw [pr_even a, pr_odd b, show twoQ 12 1 2 = 1 by decide]
    exact pr_in _ _ (fun _ => rfl) (fun h => by exfalso; split at h <;> omega)
  · rw [pr_odd a, pr_even b, show twoQ 12 2 1 = 1 by decide]
    exact pr_in _ _ (fun _ => rfl) (fun h => by exfalso; split at h <;> omega)
  · rw [pr_odd a, pr_odd b, show twoQ 12 2 2 = 3 by decide]
    exact pr_in _ _ (fun _ => rfl) (fun _ => rfl)
theorem psnd_core (op x y : Int) (hok : (arith op x y).2 = true) : hasP (twoQ op (pr x) (pr y)) (arith op x y).1 = true := by
  by_cases hop : 4 ≤ op ∧ op ≤ 12
  · rcases op_cases op hop with rfl | rfl | rfl | rfl | rfl | rfl | rfl | rfl | rfl
    · exact psnd4 x y
    · exact psnd5 x y
    · exact psnd6 x y
    · have h0 : y ≠ 0 := fun h => by rw [h] at hok; simp [arith] at hok
      have e : (arith 7 x y).1 = wrap64 (x.tdiv y) := by simp [arith, h0]
      rw [e]; exact psnd7 x y
    · have h0 : y ≠ 0 := fun h => by rw [h] at hok; simp [arith] at hok
      have e : (arith 8 x y).1 = x.tmod y := by simp [arith, h0]
      rw [e]; exact psnd8 x y
    · exact psnd9 x y
    · exact psnd10 x y
    · exact psnd11 x y
    · exact psnd12 x y
  · have : arith op x y = (0, false) := by
      unfold arith
      rw [if_neg (by omega), if_neg (by omega), if_neg (by omega), if_neg (by omega), if_neg (by omega), if_neg (by omega), if_neg (by omega), if_neg (by omega), if_neg (by omega)]
    rw [this] at hok
    cases hok
theorem pjoin1 : ∀ o : Fin 9, ∀ x m y : BitVec 3, pAll o.val (x ||| m) y 2 = pAll o.val x y 2 ||| pAll o.val m y 2 := by decide +kernel
theorem pjoin2 : ∀ o : Fin 9, ∀ x y m : BitVec 3, pAll o.val x (y ||| m) 2 = pAll o.val x y 2 ||| pAll o.val x m 2 := by decide +kernel
theorem plow : ∀ o : Fin 9, ∀ x y : BitVec 3, pAll o.val (x &&& 3) y 2 = pAll o.val x y 2 ∧ pAll o.val x (y &&& 3) 2 = pAll o.val x y 2 ∧ pAll o.val x y 2 &&& 3 = pAll o.val x y 2 := by decide +kernel
theorem twop_join1 (op : Int) (x m y : BitVec 3) : twoQ op (x ||| m) y = twoQ op x y ||| twoQ op m y := by
  unfold twoQ
  by_cases h : 4 ≤ op ∧ op ≤ 12
  · rw [if_pos h, if_pos h, if_pos h]
    exact pjoin1 ⟨(op - 4).toNat, by omega⟩ x m y
  · rw [if_neg h, if_neg h, if_neg h]; rfl
theorem twop_join2 (op : Int) (x y m : BitVec 3) : twoQ op x (y ||| m) = twoQ op x y ||| twoQ op x m := by
  unfold twoQ
  by_cases h : 4 ≤ op ∧ op ≤ 12
  · rw [if_pos h, if_pos h, if_pos h]
    exact pjoin2 ⟨(op - 4).toNat, by omega⟩ x y m
  · rw [if_neg h, if_neg h, if_neg h]; rfl
theorem twop_low (op : Int) (x y : BitVec 3) : twoQ op (x &&& 3) y = twoQ op x y ∧ twoQ op x (y &&& 3) = twoQ op x y ∧ twoQ op x y &&& 3 = twoQ op x y := by
  unfold twoQ
  by_cases h : 4 ≤ op ∧ op ≤ 12
  · rw [if_pos h, if_pos h, if_pos h]
    exact plow ⟨(op - 4).toNat, by omega⟩ x y
  · rw [if_neg h, if_neg h, if_neg h]; exact ⟨rfl, rfl, rfl⟩
theorem phas_more (T U : BitVec 3) (r : Int) (h : hasP T r = true) : hasP (U ||| T) r = true := by
  unfold hasP at h ⊢
  generalize pr r = s at *
  revert T U s; decide
theorem psnd_any (op x y : Int) (A B : BitVec 3) (hok : (arith op x y).2 = true) : hasP (twoQ op (A ||| pr x) (B ||| pr y)) (arith op x y).1 = true := by
  rw [twop_join1, twop_join2 op (pr x)]
  exact phas_more _ _ _ (phas_more _ _ _ (psnd_core op x y hok))
theorem pone2_has (A : BitVec 3) (x : Int) : hasP (oneQ 2 (A ||| pr x)) x = true := by
  rcases pr_or x with a | a
  · unfold hasP; rw [pr_even a]; revert A; decide
  · unfold hasP; rw [pr_odd a]; revert A; decide
theorem pone3_has (A : BitVec 3) (x : Int) : hasP (oneQ 3 (A ||| pr x)) (wrap64 (-x)) = true := by
  have t := wrap_mod2 (-x)
  rcases pr_or x with a | a
  · unfold hasP; rw [pr_even a, pr_even (x := wrap64 (-x)) (by omega)]; revert A; decide
  · unfold hasP; rw [pr_odd a, pr_odd (x := wrap64 (-x)) (by omega)]; revert A; decide
theorem pbr_has (A : BitVec 3) (x : Int) : hasP (branchQ (A ||| pr x) (x != 0)) x = true := by
  by_cases h : x = 0
  · subst h
    show hasP (branchQ (A ||| pr 0) false) 0 = true
    unfold hasP; rw [show pr 0 = 1 from rfl]; revert A; decide
  · rw [show (x != 0) = true by simp [h]]
    rcases pr_or x with a | a
    · unfold hasP; rw [pr_even a]; revert A; decide
    · unfold hasP; rw [pr_odd a]; revert A; decide
theorem pone_within (op : Int) (x y : BitVec 3) : withinS (oneQ op x &&& 3) (oneQ op ((x &&& 3) ||| (y &&& 3)) &&& 3) = true := by
  unfold oneQ
  split
  · revert x y; decide
  · rfl
theorem pbr_both : ∀ x : BitVec 3, (branchQ x true &&& 3) ||| (branchQ x false &&& 3) = x &&& 3 := by decide
theorem twop_zero1 (op : Int) (y : BitVec 3) : twoQ op 0 y = 0 := by
  unfold twoQ
  split
  · generalize (op - 4).toNat = o
    simp [pAll, pRow, pPair, bt]
  · rfl
theorem twop_zero2 (op : Int) (x : BitVec 3) : twoQ op x 0 = 0 := by
  unfold twoQ
  split
  · generalize (op - 4).toNat = o
    simp [pAll, pRow, pPair, bt]
  · rfl
end Go.Proofs.YthiacdbjlkpfgaaDoor
