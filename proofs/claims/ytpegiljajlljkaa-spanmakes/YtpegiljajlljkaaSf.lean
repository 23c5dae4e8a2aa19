import Derived.Test.YtpegiljajlljkaaSe
namespace Go.Proofs.Ytpegiljajlljkaa
open Go.RowKit
theorem len_small (m : Nat) (h : m < 256) : wrap64 (bitLen m : Int) = bitLen m := by
  have := bitLen_le8 m h
  exact wrap_fit _ (by omega) (by omega)
/-- b bits below those of y -/
theorem len_up (x y : Int) (b p : Nat) (hp : p = 2 ^ b) (hb : b ≤ 56) (hy : y.toNat = x.toNat / p) (hn : y.toNat ≠ 0) (h8 : y.toNat < 256) : wrap64 ((b : Int) + wrap64 (bitLen y.toNat : Int)) = bitLen x.toNat := by
  subst hp
  rw [len_small _ h8]
  have := bitLen_le8 _ h8
  rw [wrap_fit _ (by omega) (by omega), bitLen_shift x.toNat b (by rw [← hy]; exact hn), ← hy]
  push_cast
  rfl
set_option maxHeartbeats 8000000 in
set_option maxRecDepth 100000 in
theorem len64_any (x : Int) (w : World) (h0 : 0 ≤ x) (h1 : x ≤ 18446744073709551615) : Calls Try.prog 64 #[.int .u64 x] w fun e w' => e = .returned (.int .i64 (bitLen x.toNat)) ∧ w' = w := by
  go_enter Try.func64, Try.ntmps64
  go_wp2
  all_goals (go_ret; refine ⟨congrArg Ending.returned (congrArg (Value.int IntKind.i64) ?_), rfl⟩)
  all_goals rw [len8tab_get]
  all_goals (first
    | exact len_up x _ 56 72057594037927936 (by decide) (by decide) (by omega) (by omega) (by omega)
    | exact len_up x _ 48 281474976710656 (by decide) (by decide) (by omega) (by omega) (by omega)
    | exact len_up x _ 40 1099511627776 (by decide) (by decide) (by omega) (by omega) (by omega)
    | exact len_up x _ 32 4294967296 (by decide) (by decide) (by omega) (by omega) (by omega)
    | exact len_up x _ 24 16777216 (by decide) (by decide) (by omega) (by omega) (by omega)
    | exact len_up x _ 16 65536 (by decide) (by decide) (by omega) (by omega) (by omega)
    | exact len_up x _ 8 256 (by decide) (by decide) (by omega) (by omega) (by omega)
    | (simp only [len_small _ (show x.toNat < 256 by omega)]; done))
theorem pow_ones (n : Int) (h1 : n ≤ 9223372036854775807) : wrap64 (IntKind.u64.wrap (IntKind.u64.wrap (2 ^ bitLen n.toNat) - 1)) = onesI n := by
  have e := bitLen_63 n h1
  have e3 : 2 ^ bitLen n.toNat ≤ 2 ^ 63 := Nat.pow_le_pow_right (by omega) e
  have e4 : 0 < 2 ^ bitLen n.toNat := Nat.pow_pos (by omega)
  unfold onesI
  have hc : ((2 : Int) ^ bitLen n.toNat) = ((2 ^ bitLen n.toNat : Nat) : Int) := by push_cast; rfl
  rw [hc]
  generalize 2 ^ bitLen n.toNat = p at *
  rw [IntKind.wrap_u64, IntKind.wrap_u64]
  unfold wrap64
  omega
set_option maxRecDepth 100000 in
theorem ones_any (n : Int) (w : World) (h0 : 0 ≤ n) (h1 : n ≤ 9223372036854775807) : Calls Try.prog 60 #[.int .i64 n] w fun e w' => e = .returned (.int .i64 (onesI n)) ∧ w' = w := by
  have hl := bitLen_63 n h1
  go_enter Try.func60, Try.ntmps60
  go_wp2_with (go_at_call 64; refine (len64_any _ _ (by omega) (by omega)).mono ?_; rintro e w1 ⟨rfl, rfl⟩)
  go_ret
  exact ⟨ret_i (pow_ones n h1).symm, rfl⟩
end Go.Proofs.Ytpegiljajlljkaa
