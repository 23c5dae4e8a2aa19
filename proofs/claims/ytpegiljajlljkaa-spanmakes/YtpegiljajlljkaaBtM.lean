import Derived.Test.YtpegiljajlljkaaLow
namespace Go.Proofs.Ytpegiljajlljkaa
open Go.RowKit

theorem toInt64 (a : Int) (h0 : -9223372036854775808 ≤ a) (h1 : a ≤ 9223372036854775807) : (BitVec.ofInt 64 a).toInt = a := by
  rw [BitVec.toInt_ofInt, Int.bmod]
  split <;> omega
theorem msb64 (a : Int) (h0 : -9223372036854775808 ≤ a) (h1 : a ≤ 9223372036854775807) : (BitVec.ofInt 64 a).msb = decide (a < 0) := by
  rw [BitVec.msb_eq_toInt, toInt64 a h0 h1]
theorem bits_and_toInt (a b : Int) : bits .and .i64 a b = (BitVec.ofInt 64 a &&& BitVec.ofInt 64 b).toInt := wrap_toInt _
theorem bits_xor_toInt (a b : Int) : bits .xor .i64 a b = (BitVec.ofInt 64 a ^^^ BitVec.ofInt 64 b).toInt := wrap_toInt _
theorem and_neg (a b : Int) (h0 : -9223372036854775808 ≤ a) (h1 : a ≤ 9223372036854775807) (h2 : -9223372036854775808 ≤ b) (h3 : b ≤ 9223372036854775807) : bits .and .i64 a b < 0 ↔ (a < 0 ∧ b < 0) := by
  have h := BitVec.msb_eq_toInt (x := BitVec.ofInt 64 a &&& BitVec.ofInt 64 b)
  rw [BitVec.msb_and, msb64 a h0 h1, msb64 b h2 h3, ← bits_and_toInt] at h
  rw [← decide_eq_true_iff (p := bits .and .i64 a b < 0), ← h]
  simp
theorem xor_neg (a b : Int) (h0 : -9223372036854775808 ≤ a) (h1 : a ≤ 9223372036854775807) (h2 : -9223372036854775808 ≤ b) (h3 : b ≤ 9223372036854775807) : bits .xor .i64 a b < 0 ↔ ¬ (a < 0 ↔ b < 0) := by
  have h := BitVec.msb_eq_toInt (x := BitVec.ofInt 64 a ^^^ BitVec.ofInt 64 b)
  rw [BitVec.msb_xor, msb64 a h0 h1, msb64 b h2 h3, ← bits_xor_toInt] at h
  rw [← decide_eq_true_iff (p := bits .xor .i64 a b < 0), ← h]
  by_cases ha : a < 0 <;> by_cases hb : b < 0 <;> simp [ha, hb]
theorem and_zero (a : Int) : bits .and .i64 a 0 = 0 := by rw [bits_and_toInt]; simp
theorem zero_and (a : Int) : bits .and .i64 0 a = 0 := by rw [bits_and_toInt]; simp
theorem xor_zero (a : Int) (h0 : -9223372036854775808 ≤ a) (h1 : a ≤ 9223372036854775807) : bits .xor .i64 a 0 = a := by rw [bits_xor_toInt]; simpa using toInt64 a h0 h1
theorem zero_xor (a : Int) (h0 : -9223372036854775808 ≤ a) (h1 : a ≤ 9223372036854775807) : bits .xor .i64 0 a = a := by rw [bits_xor_toInt]; simpa using toInt64 a h0 h1
theorem and_i64 (a b : Int) : -9223372036854775808 ≤ bits .and .i64 a b ∧ bits .and .i64 a b ≤ 9223372036854775807 := by
  rw [bits_and_toInt]
  generalize BitVec.ofInt 64 a &&& BitVec.ofInt 64 b = x
  have h1 := BitVec.le_toInt x
  have h2 := BitVec.toInt_lt (x := x)
  omega
theorem xor_i64 (a b : Int) : -9223372036854775808 ≤ bits .xor .i64 a b ∧ bits .xor .i64 a b ≤ 9223372036854775807 := by
  rw [bits_xor_toInt]
  generalize BitVec.ofInt 64 a ^^^ BitVec.ofInt 64 b = x
  have h1 := BitVec.le_toInt x
  have h2 := BitVec.toInt_lt (x := x)
  omega
end Go.Proofs.Ytpegiljajlljkaa
