import Derived.Test.YtpegiljajlljkaaSr1
import Derived.Test.YtpegiljajlljkaaSf
import Derived.LoopTactic
namespace Go.Proofs.Ytpegiljajlljkaa
open Go.RowKit
theorem two_pow (k : Nat) : ((2 : Int) ^ k) = ((2 ^ k : Nat) : Int) := by push_cast; rfl
theorem ones_more (n : Int) (k : Nat) (h0 : 0 ≤ n) (hl : (2 : Int) ^ k - 1 < n) : k < bitLen n.toNat := by
  rw [two_pow] at hl
  by_cases h : k < bitLen n.toNat
  · exact h
  exfalso
  have e := (bitLen_spec n.toNat).1
  have e2 : 2 ^ bitLen n.toNat ≤ 2 ^ k := Nat.pow_le_pow_right (by omega) (by omega)
  omega
theorem ones_enough (n : Int) (k : Nat) (hk : k ≤ bitLen n.toNat) (hl : ¬ (2 : Int) ^ k - 1 < n) : k = bitLen n.toNat := by
  rw [two_pow] at hl
  by_cases h : k = bitLen n.toNat
  · exact h
  exfalso
  have hn : n.toNat ≠ 0 := by
    intro h0
    rw [h0] at hk h
    simp [bitLen] at hk h
    omega
  have e := (bitLen_spec n.toNat).2 hn
  have e2 : 2 ^ k ≤ 2 ^ (bitLen n.toNat - 1) := Nat.pow_le_pow_right (by omega) (by omega)
  omega
theorem ones_bound (k : Nat) (hk : k ≤ 63) : 0 ≤ (2 : Int) ^ k - 1 ∧ (2 : Int) ^ k - 1 ≤ 9223372036854775807 := by
  have e3 : 2 ^ k ≤ 2 ^ 63 := Nat.pow_le_pow_right (by omega) hk
  have e4 : 0 < 2 ^ k := Nat.pow_pos (by omega)
  rw [two_pow]
  omega
theorem onesr_any (n : Int) (w : World) (h0 : 0 ≤ n) (h1 : n ≤ 9223372036854775807) : Calls Try.prog 62 #[.int .i64 n] w fun e w' => e = .returned (.int .i64 (onesI n)) ∧ w' = w := by
  have hl := bitLen_63 n h1
  go_enter Try.func62, Try.ntmps62
  go_wp2
  go_loop [3] (fun p => ∃ k : Nat, k ≤ bitLen n.toNat ∧ p = .int .i64 (2 ^ k - 1)) (fun p => (n - intOf p).toNat)
  case atStart => exact ⟨0, Nat.zero_le _, by simp⟩
  case round =>
    obtain ⟨k, hk, rfl⟩ := hrel
    have hb := ones_bound k (by omega)
    by_cases hlt : (2 : Int) ^ k - 1 < n
    · have hm := ones_more n k h0 hlt
      have HB : Hid (2 * ((2 : Int) ^ k - 1) + 1 = 2 ^ (k + 1) - 1 ∧ k < bitLen n.toNat) := ⟨by rw [Int.pow_succ]; omega, hm⟩
      have hb2 := ones_bound (k + 1) (by omega)
      rw [← HB.out.1] at hb2
      obtain ⟨b1, b2⟩ := hb
      obtain ⟨b3, b4⟩ := hb2
      clear hm
      generalize hP : (2 : Int) ^ k - 1 = p at *
      have HP : Hid ((2 : Int) ^ k - 1 = p) := hP
      clear hP
      go_wp2
      go_round
      case rel => exact ⟨k + 1, HB.out.2, by rw [HB.out.1]⟩
      case measure => simp [intOf]; omega
    · have HB : Hid (k = bitLen n.toNat) := ones_enough n k hk hlt
      have HC : Hid ((2 : Int) ^ k - 1 = onesI n) := by unfold Hid onesI; rw [HB.out]
      go_wp2
      go_ret
      exact ⟨ret_i HC.out.symm, rfl⟩
end Go.Proofs.Ytpegiljajlljkaa
