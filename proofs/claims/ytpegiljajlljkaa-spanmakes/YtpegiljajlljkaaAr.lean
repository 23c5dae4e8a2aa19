import Derived.Test.YtpegiljajlljkaaProg
import Derived.WalkKit
import Derived.WalkSpells
import Derived.ProofKit
import Derived.Below
namespace Go.Proofs.Ytpegiljajlljkaa
open Go.RowKit

/-- what two numbers come to -/
def arith (op a b : Int) : Int × Bool :=
  if op = 4 then (wrap64 (a + b), true)
  else if op = 5 then (wrap64 (a - b), true)
  else if op = 6 then (wrap64 (a * b), true)
  else if op = 7 then (if b = 0 then (0, false) else (wrap64 (a.tdiv b), true))
  else if op = 8 then (if b = 0 then (0, false) else (a.tmod b, true))
  else if op = 9 then (bits .and .i64 a b, true)
  else if op = 10 then (bits .xor .i64 a b, true)
  else if op = 11 then ((if a < b then 1 else 0), true)
  else if op = 12 then ((if a = b then 1 else 0), true)
  else (0, false)

def i64 (n : Int) : Prop := -9223372036854775808 ≤ n ∧ n ≤ 9223372036854775807

set_option maxRecDepth 100000 in
set_option maxHeartbeats 4000000 in
theorem arith_ref (op a b : Int) (w : World) (ha : i64 a) (hb : i64 b) : Calls Try.prog 34 #[.int .i64 op, .int .i64 a, .int .i64 b] w fun e w' => e = .returned (.tuple #[.int .i64 (arith op a b).1, .bool (arith op a b).2]) ∧ w' = w := by
  unfold i64 at ha hb
  obtain ⟨a1, a2⟩ := ha
  obtain ⟨b1, b2⟩ := hb
  by_cases h4 : op = 4
  · subst h4; go_enter Try.func34, Try.ntmps34; go_wp2; go_ret2; exact ⟨by simp [arith], rfl⟩
  by_cases h5 : op = 5
  · subst h5; go_enter Try.func34, Try.ntmps34; go_wp2; go_ret2; exact ⟨by simp [arith], rfl⟩
  by_cases h6 : op = 6
  · subst h6; go_enter Try.func34, Try.ntmps34; go_wp2; go_ret2; exact ⟨by simp [arith], rfl⟩
  by_cases h7 : op = 7
  · subst h7
    by_cases hb0 : b = 0
    · subst hb0; go_enter Try.func34, Try.ntmps34; go_wp2; go_ret2; exact ⟨by simp [arith], rfl⟩
    by_cases hb1 : b = -1
    · subst hb1; go_enter Try.func34, Try.ntmps34; go_wp2; go_ret2; exact ⟨by simp [arith, Int.tdiv_neg], rfl⟩
    go_enter Try.func34, Try.ntmps34; go_wp2; go_ret2; exact ⟨by simp [arith, hb0], rfl⟩
  by_cases h8 : op = 8
  · subst h8
    by_cases hb0 : b = 0
    · subst hb0; go_enter Try.func34, Try.ntmps34; go_wp2; go_ret2; exact ⟨by simp [arith], rfl⟩
    by_cases hb1 : b = -1
    · subst hb1; go_enter Try.func34, Try.ntmps34; go_wp2; go_ret2; exact ⟨by simp [arith, Int.tmod_neg, Int.tmod_one], rfl⟩
    go_enter Try.func34, Try.ntmps34; go_wp2; go_ret2; exact ⟨by simp [arith, hb0], rfl⟩
  by_cases h9 : op = 9
  · subst h9; go_enter Try.func34, Try.ntmps34; go_wp2; go_ret2; exact ⟨by simp [arith], rfl⟩
  by_cases h10 : op = 10
  · subst h10; go_enter Try.func34, Try.ntmps34; go_wp2; go_ret2; exact ⟨by simp [arith], rfl⟩
  by_cases h11 : op = 11
  · subst h11
    by_cases hl : a < b
    · go_enter Try.func34, Try.ntmps34; go_wp2; go_ret2; exact ⟨by simp [arith, hl], rfl⟩
    · go_enter Try.func34, Try.ntmps34; go_wp2; go_ret2; exact ⟨by simp [arith, hl], rfl⟩
  by_cases h12 : op = 12
  · subst h12
    by_cases hl : a = b
    · subst hl; go_enter Try.func34, Try.ntmps34; go_wp2; go_ret2; exact ⟨by simp [arith], rfl⟩
    · go_enter Try.func34, Try.ntmps34; go_wp2; go_ret2; exact ⟨by simp [arith, hl], rfl⟩
  go_enter Try.func34, Try.ntmps34; go_wp2; go_ret2; exact ⟨by simp [arith, *], rfl⟩
set_option maxRecDepth 100000 in
set_option maxHeartbeats 4000000 in
theorem arith_vm (op a b : Int) (w : World) (ha : i64 a) (hb : i64 b) : Calls Try.prog 63 #[.int .i64 op, .int .i64 a, .int .i64 b] w fun e w' => e = .returned (.tuple #[.int .i64 (arith op a b).1, .bool (arith op a b).2]) ∧ w' = w := by
  unfold i64 at ha hb
  obtain ⟨a1, a2⟩ := ha
  obtain ⟨b1, b2⟩ := hb
  by_cases h4 : op = 4
  · subst h4; go_enter Try.func63, Try.ntmps63; go_wp2; go_ret2; exact ⟨by simp [arith], rfl⟩
  by_cases h5 : op = 5
  · subst h5; go_enter Try.func63, Try.ntmps63; go_wp2; go_ret2; exact ⟨by simp [arith], rfl⟩
  by_cases h6 : op = 6
  · subst h6; go_enter Try.func63, Try.ntmps63; go_wp2; go_ret2; exact ⟨by simp [arith], rfl⟩
  by_cases h7 : op = 7
  · subst h7
    by_cases hb0 : b = 0
    · subst hb0; go_enter Try.func63, Try.ntmps63; go_wp2; go_ret2; exact ⟨by simp [arith], rfl⟩
    by_cases hb1 : b = -1
    · subst hb1; go_enter Try.func63, Try.ntmps63; go_wp2; go_ret2; exact ⟨by simp [arith, Int.tdiv_neg], rfl⟩
    go_enter Try.func63, Try.ntmps63; go_wp2; go_ret2; exact ⟨by simp [arith, hb0], rfl⟩
  by_cases h8 : op = 8
  · subst h8
    by_cases hb0 : b = 0
    · subst hb0; go_enter Try.func63, Try.ntmps63; go_wp2; go_ret2; exact ⟨by simp [arith], rfl⟩
    by_cases hb1 : b = -1
    · subst hb1; go_enter Try.func63, Try.ntmps63; go_wp2; go_ret2; exact ⟨by simp [arith, Int.tmod_neg, Int.tmod_one], rfl⟩
    go_enter Try.func63, Try.ntmps63; go_wp2; go_ret2; exact ⟨by simp [arith, hb0], rfl⟩
  by_cases h9 : op = 9
  · subst h9; go_enter Try.func63, Try.ntmps63; go_wp2; go_ret2; exact ⟨by simp [arith], rfl⟩
  by_cases h10 : op = 10
  · subst h10; go_enter Try.func63, Try.ntmps63; go_wp2; go_ret2; exact ⟨by simp [arith], rfl⟩
  by_cases h11 : op = 11
  · subst h11
    by_cases hl : a < b
    · go_enter Try.func63, Try.ntmps63; go_wp2; go_ret2; exact ⟨by simp [arith, hl], rfl⟩
    · go_enter Try.func63, Try.ntmps63; go_wp2; go_ret2; exact ⟨by simp [arith, hl], rfl⟩
  by_cases h12 : op = 12
  · subst h12
    by_cases hl : a = b
    · subst hl; go_enter Try.func63, Try.ntmps63; go_wp2; go_ret2; exact ⟨by simp [arith], rfl⟩
    · go_enter Try.func63, Try.ntmps63; go_wp2; go_ret2; exact ⟨by simp [arith, hl], rfl⟩
  go_enter Try.func63, Try.ntmps63; go_wp2; go_ret2; exact ⟨by simp [arith, *], rfl⟩
end Go.Proofs.Ytpegiljajlljkaa
