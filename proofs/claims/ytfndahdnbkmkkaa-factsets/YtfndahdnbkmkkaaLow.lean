import Derived.Laws.BitsAll
import Derived.WalkKit
namespace Go.Proofs.Ytfndahdnbkmkkaa
open Go.RowKit

/-- the lowest three -/
def low (a : Int) : BitVec 3 := BitVec.ofInt 3 a
/-- as a number -/
def up (x : BitVec 3) : Int := (x.toNat : Int)

theorem up_low (r : Int) (h0 : 0 ≤ r) (h1 : r < 8) : r = up (low r) := by
  unfold up low
  rw [BitVec.toNat_ofInt]
  omega
theorem low_up (x : BitVec 3) : low (up x) = x := by
  unfold up low
  simp
theorem up_bd (x : BitVec 3) : 0 ≤ up x ∧ up x < 8 := by
  unfold up
  have := x.isLt
  omega
theorem wrap_toInt (x : BitVec 64) : IntKind.i64.wrap (x.toNat : Int) = x.toInt := by
  rw [IntKind.wrap_i64, BitVec.toInt_eq_toNat_bmod, Int.bmod]
  have := x.isLt
  split <;> omega
theorem low_toInt (x : BitVec 64) : low x.toInt = x.setWidth 3 := by
  unfold low
  show x.signExtend 3 = _
  rw [BitVec.signExtend_eq_setWidth_of_le _ (by omega)]
theorem low_of64 (a : Int) : (BitVec.ofInt 64 a).setWidth 3 = low a := by
  apply BitVec.eq_of_toNat_eq
  unfold low
  rw [BitVec.toNat_setWidth, BitVec.toNat_ofInt, BitVec.toNat_ofInt]
  omega
theorem low_and (a b : Int) : low (bits .and .i64 a b) = low a &&& low b := by
  show low (IntKind.i64.wrap ((BitVec.ofInt 64 a &&& BitVec.ofInt 64 b).toNat : Int)) = _
  rw [wrap_toInt, low_toInt, BitVec.setWidth_and, low_of64, low_of64]
theorem low_or (a b : Int) : low (bits .or .i64 a b) = low a ||| low b := by
  show low (IntKind.i64.wrap ((BitVec.ofInt 64 a ||| BitVec.ofInt 64 b).toNat : Int)) = _
  rw [wrap_toInt, low_toInt, BitVec.setWidth_or, low_of64, low_of64]
theorem low_xor (a b : Int) : low (bits .xor .i64 a b) = low a ^^^ low b := by
  show low (IntKind.i64.wrap ((BitVec.ofInt 64 a ^^^ BitVec.ofInt 64 b).toNat : Int)) = _
  rw [wrap_toInt, low_toInt, BitVec.setWidth_xor, low_of64, low_of64]
theorem low_andNot (a b : Int) : low (bits .andNot .i64 a b) = low a &&& ~~~ low b := by
  show low (IntKind.i64.wrap ((BitVec.ofInt 64 a &&& ~~~ BitVec.ofInt 64 b).toNat : Int)) = _
  rw [wrap_toInt, low_toInt, BitVec.setWidth_and, BitVec.setWidth_not (by omega), low_of64, low_of64]
theorem and_bd (a c : Int) (h0 : 0 ≤ c) (h1 : c < 8) : 0 ≤ bits .and .i64 a c ∧ bits .and .i64 a c < 8 := by
  show 0 ≤ IntKind.i64.wrap ((BitVec.ofInt 64 a &&& BitVec.ofInt 64 c).toNat : Int) ∧ IntKind.i64.wrap ((BitVec.ofInt 64 a &&& BitVec.ofInt 64 c).toNat : Int) < 8
  have h : (BitVec.ofInt 64 a &&& BitVec.ofInt 64 c).toNat ≤ (BitVec.ofInt 64 c).toNat := by rw [BitVec.toNat_and]; exact Nat.and_le_right
  have h2 : (BitVec.ofInt 64 c).toNat < 8 := by rw [BitVec.toNat_ofInt]; omega
  rw [IntKind.wrap_i64]
  omega
/-- '&' with a mask below 8 -/
theorem and_up (a c : Int) (h0 : 0 ≤ c) (h1 : c < 8) : bits .and .i64 a c = up (low a &&& low c) := by
  rw [← low_and]
  exact up_low _ (and_bd a c h0 h1).1 (and_bd a c h0 h1).2
theorem or_bd (a c : Int) (a0 : 0 ≤ a) (a1 : a < 8) (h0 : 0 ≤ c) (h1 : c < 8) : 0 ≤ bits .or .i64 a c ∧ bits .or .i64 a c < 8 := by
  show 0 ≤ IntKind.i64.wrap ((BitVec.ofInt 64 a ||| BitVec.ofInt 64 c).toNat : Int) ∧ IntKind.i64.wrap ((BitVec.ofInt 64 a ||| BitVec.ofInt 64 c).toNat : Int) < 8
  have h2 : (BitVec.ofInt 64 c).toNat < 2 ^ 3 := by rw [BitVec.toNat_ofInt]; omega
  have h3 : (BitVec.ofInt 64 a).toNat < 2 ^ 3 := by rw [BitVec.toNat_ofInt]; omega
  have h : (BitVec.ofInt 64 a ||| BitVec.ofInt 64 c).toNat < 2 ^ 3 := by rw [BitVec.toNat_or]; exact Nat.or_lt_two_pow h3 h2
  rw [IntKind.wrap_i64]
  omega
theorem or_up (x y : BitVec 3) : bits .or .i64 (up x) (up y) = up (x ||| y) := by
  have h := up_low _ (or_bd (up x) (up y) (up_bd x).1 (up_bd x).2 (up_bd y).1 (up_bd y).2).1 (or_bd (up x) (up y) (up_bd x).1 (up_bd x).2 (up_bd y).1 (up_bd y).2).2
  rw [h, low_or, low_up, low_up]
theorem and_upup (x y : BitVec 3) : bits .and .i64 (up x) (up y) = up (x &&& y) := by
  rw [and_up _ _ (up_bd y).1 (up_bd y).2, low_up, low_up]
theorem up_inj {x y : BitVec 3} (h : up x = up y) : x = y := by rw [← low_up x, ← low_up y, h]
theorem up_beq (x y : BitVec 3) : (up x == up y) = (x == y) := by
  rw [Bool.eq_iff_iff]
  simp only [beq_iff_eq]
  exact ⟨up_inj, fun h => by rw [h]⟩
theorem up_bne0 (x : BitVec 3) : (up x != 0) = (x != 0) := by
  have := up_beq x 0
  rw [show up 0 = 0 from rfl] at this
  simp [bne, this]
/-- a bit of the lowest three -/
def bt (x : BitVec 3) (i : Nat) : Bool := x.getLsbD i
theorem low_shr (a : Int) (i : Nat) (hi : i < 3) : bits .and .i64 (a / 2 ^ i) 1 = if bt (low a) i then 1 else 0 := by
  rw [and_up _ _ (by omega) (by omega)]
  have h1 : (low (a / 2 ^ i)).toNat = ((a / 2 ^ i) % 8).toNat := by unfold low; rw [BitVec.toNat_ofInt]; rfl
  have h2 : (low a).toNat = (a % 8).toNat := by unfold low; rw [BitVec.toNat_ofInt]; rfl
  have h3 : bt (low a) i = ((low a).toNat).testBit i := rfl
  have h4 : up (low (a / 2 ^ i) &&& low 1) = (((low (a / 2 ^ i)).toNat &&& 1 : Nat) : Int) := by
    unfold up; rw [BitVec.toNat_and]; rfl
  rw [h4, h3, h1, h2, Nat.and_one_is_mod, Nat.testBit_eq_decide_div_mod_eq]
  match i, hi with
  | 0, _ => simp; split <;> omega
  | 1, _ => simp; split <;> omega
  | 2, _ => simp; split <;> omega
end Go.Proofs.Ytfndahdnbkmkkaa
