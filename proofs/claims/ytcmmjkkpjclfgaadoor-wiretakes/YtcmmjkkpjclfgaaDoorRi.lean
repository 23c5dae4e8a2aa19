import Derived.Test.YtcmmjkkpjclfgaaDoorRu
import Derived.Laws.DeepNot64
namespace Go.Proofs.YtcmmjkkpjclfgaaDoor
open Go.RowKit

def zag (u : Nat) : Int := if u % 2 = 1 then -((u / 2 : Nat) : Int) - 1 else ((u / 2 : Nat) : Int)

theorem half_wrap (n : Nat) (h : n < 18446744073709551616) : wrap64 ((n : Int) / 2) = ((n / 2 : Nat) : Int) := by
  unfold wrap64; omega
theorem zag_odd (n : Nat) (h : n < 18446744073709551616) (h1 : (bits BinOp.and IntKind.u64 (n : Int) 1 == 1) = true) : bits BinOp.xor IntKind.i64 (-1) (wrap64 ((n : Int) / 2)) = zag n := by
  rw [and_one_u64 n (by omega) (by omega)] at h1
  have h2 : n % 2 = 1 := by simp at h1; omega
  rw [half_wrap n h, i64_not _ (by omega), zag, if_pos h2]
  omega
theorem zag_even (n : Nat) (h : n < 18446744073709551616) (h1 : (bits BinOp.and IntKind.u64 (n : Int) 1 == 1) = false) : wrap64 ((n : Int) / 2) = zag n := by
  rw [and_one_u64 n (by omega) (by omega)] at h1
  have h2 : ¬ n % 2 = 1 := by simp at h1; omega
  rw [half_wrap n h, zag, if_neg h2]

set_option maxRecDepth 100000 in
set_option maxHeartbeats 400000 in
theorem rint_ok (g rb : Nat) (bs : List UInt8) (p q : Nat) (n s : Nat) (w : World) (h : Rdr w g rb bs p q) (hn : numGo (leftOf bs p q) 0 0 = (n, s, 0)) (hm : n < 18446744073709551616) :
    Calls Tryd.prog 35 #[.pointer (some ⟨g, 0, none⟩)] w fun e w' => e = .returned (.tuple #[.int .i64 (zag n), .nilIface]) ∧ Rdr w' g rb bs (p + s) q ∧ Fr (fun k => k = g) w w' := by
  have C := ruint_ok g rb bs p q 18446744073709551615 n s w h hn (by omega)
  have HM : Hid (n < 18446744073709551616) := hm
  clear h hn hm
  go_enter Tryd.func35, Tryd.ntmps35
  go_wp2_with fail
  refine C.mono ?_
  rintro e w' ⟨rfl, hr, hf⟩
  have HR : Hid (Rdr w' g rb bs (p + s) q ∧ Fr (fun k => k = g) w w') := ⟨hr, hf⟩
  clear C hr hf
  go_wp2
  · have h1 : (bits BinOp.and IntKind.u64 (n : Int) 1 == 1) = true := by assumption
    go_ret2
    refine ⟨?_, HR.out⟩
    rw [← zag_odd n HM.out h1]; rfl
  · have h1 : (bits BinOp.and IntKind.u64 (n : Int) 1 == 1) = false := by assumption
    go_ret2
    refine ⟨?_, HR.out⟩
    rw [← zag_even n HM.out h1]; rfl

def zig (n : Int) : Nat := if n < 0 then (-2 * n - 1).toNat else (2 * n).toNat
theorem xor_ones (a : Nat) (h : a < 18446744073709551616) : a ^^^ 18446744073709551615 = 18446744073709551615 - a := by
  have h1 := congrArg BitVec.toNat (BitVec.xor_allOnes (x := BitVec.ofNat 64 a))
  rw [BitVec.toNat_not, BitVec.toNat_xor, BitVec.toNat_allOnes, BitVec.toNat_ofNat] at h1
  have e : a % 2 ^ 64 = a := Nat.mod_eq_of_lt h
  rw [e] at h1
  exact h1
theorem zig_val (n : Int) (h1 : -9223372036854775808 ≤ n) (h2 : n < 9223372036854775808) :
    bits BinOp.xor IntKind.u64 (IntKind.u64.wrap (IntKind.u64.wrap n * 2)) (IntKind.u64.wrap (n / 9223372036854775808)) = (zig n : Int) := by
  simp only [IntKind.wrap_u64]
  by_cases h : n < 0
  · obtain ⟨a, ha⟩ : ∃ a : Nat, n % 18446744073709551616 * 2 % 18446744073709551616 = (a : Int) := ⟨(n % 18446744073709551616 * 2 % 18446744073709551616).toNat, by omega⟩
    have hb : n / 9223372036854775808 % 18446744073709551616 = ((18446744073709551615 : Nat) : Int) := by omega
    rw [ha, hb, bits_xor_u64_nat a _ (by omega) (by omega), xor_ones a (by omega), zig, if_pos h]
    omega
  · obtain ⟨a, ha⟩ : ∃ a : Nat, n % 18446744073709551616 * 2 % 18446744073709551616 = (a : Int) := ⟨(n % 18446744073709551616 * 2 % 18446744073709551616).toNat, by omega⟩
    have hb : n / 9223372036854775808 % 18446744073709551616 = ((0 : Nat) : Int) := by omega
    rw [ha, hb, bits_xor_u64_nat a _ (by omega) (by omega), Nat.xor_zero, zig, if_neg h]
    omega

set_option maxRecDepth 100000 in
set_option maxHeartbeats 400000 in
theorem wint_any (g : Nat) (r : Option Nat) (bs : List UInt8) (n : Int) (w : World) (h : Wtr w g r bs) (h1 : -9223372036854775808 ≤ n) (h2 : n < 9223372036854775808) (hl : bs.length ≤ 100000000) :
    Calls Tryd.prog 30 #[.pointer (some ⟨g, 0, none⟩), .int .i64 n] w fun e w' => e = .returned (.tuple #[]) ∧ WStep w w' g r (bs ++ lebF 9 (zig n)) := by
  have C := uint_any g r bs (zig n) w h (by unfold zig; split <;> omega) hl
  have H12 : Hid (-9223372036854775808 ≤ n ∧ n < 9223372036854775808) := ⟨h1, h2⟩
  clear h1 h2 h hl
  go_enter Tryd.func30, Tryd.ntmps30
  go_wp2_with fail
  rw [zig_val n H12.out.1 H12.out.2]
  refine C.mono ?_
  rintro e w' ⟨rfl, hw⟩
  have HW : Hid (WStep w w' g r (bs ++ lebF 9 (zig n))) := hw
  clear C hw
  go_wp2
  go_end0
  exact ⟨rfl, HW⟩
end Go.Proofs.YtcmmjkkpjclfgaaDoor
