import Derived.Test.YtpegiljajlljkaaBtM
import Derived.Test.YtpegiljajlljkaaAr
import Derived.Laws.MathBits
namespace Go.Proofs.Ytpegiljajlljkaa
open Go.RowKit

/-- is it an int64, too -/
def fit (n : Int) : Bool := decide (-9223372036854775808 ≤ n) && decide (n ≤ 9223372036854775807)
def mn (a b c d : Int) : Int := min (min a b) (min c d)
def mx (a b c d : Int) : Int := max (max a b) (max c d)
def allP : Int × Int := (-9223372036854775808, 9223372036854775807)
/-- a Span that is Right, of int64s -/
def Sp (s : Int × Int) : Prop := -9223372036854775808 ≤ s.1 ∧ s.1 ≤ s.2 ∧ s.2 ≤ 9223372036854775807
def In (s : Int × Int) (x : Int) : Prop := s.1 ≤ x ∧ x ≤ s.2
def Wi (s t : Int × Int) : Prop := t.1 ≤ s.1 ∧ s.2 ≤ t.2

def sumsP (a b : Int × Int) : Int × Int :=
  if fit (a.1 + b.1) && fit (a.2 + b.2) then (a.1 + b.1, a.2 + b.2) else allP
def diffsP (a b : Int × Int) : Int × Int :=
  if fit (a.1 - b.2) && fit (a.2 - b.1) then (a.1 - b.2, a.2 - b.1) else allP
def prodsP (a b : Int × Int) : Int × Int :=
  if fit (a.1 * b.1) && fit (a.1 * b.2) && fit (a.2 * b.1) && fit (a.2 * b.2) then
    (mn (a.1 * b.1) (a.1 * b.2) (a.2 * b.1) (a.2 * b.2), mx (a.1 * b.1) (a.1 * b.2) (a.2 * b.1) (a.2 * b.2)) else allP
def quoP (a b : Int × Int) : Int × Int :=
  (mn (a.1.tdiv b.1) (a.1.tdiv b.2) (a.2.tdiv b.1) (a.2.tdiv b.2), mx (a.1.tdiv b.1) (a.1.tdiv b.2) (a.2.tdiv b.1) (a.2.tdiv b.2))
def belowP (b : Int × Int) : Int × Int := (b.1, min b.2 (-1))
def aboveP (b : Int × Int) : Int × Int := (max b.1 1, b.2)
def quotsP (a b : Int × Int) : (Int × Int) × Bool :=
  if a.1 = -9223372036854775808 ∧ b.1 ≤ -1 ∧ -1 ≤ b.2 then (allP, true)
  else if b.1 ≤ -1 ∧ 1 ≤ b.2 then ((min (quoP a (belowP b)).1 (quoP a (aboveP b)).1, max (quoP a (belowP b)).2 (quoP a (aboveP b)).2), true)
  else if b.1 ≤ -1 then (quoP a (belowP b), true)
  else if 1 ≤ b.2 then (quoP a (aboveP b), true)
  else ((0, 0), false)
def farP (b : Int × Int) : Int := max (-1 - min b.1 (-1)) (max b.2 1 - 1)
def remsP (a b : Int × Int) : (Int × Int) × Bool :=
  if b.1 = 0 ∧ b.2 = 0 then ((0, 0), false)
  else ((max (min a.1 0) (-(farP b)), min (max a.2 0) (farP b)), true)
def andsP (a b : Int × Int) : Int × Int :=
  if 0 ≤ a.1 ∧ 0 ≤ b.1 then (0, min a.2 b.2)
  else if 0 ≤ a.1 then (0, a.2)
  else if 0 ≤ b.1 then (0, b.2)
  else if a.2 < 0 ∧ b.2 < 0 then (-9223372036854775808, min a.2 b.2)
  else (-9223372036854775808, max a.2 b.2)
/-- the least 2^k - 1 that isn't below n -/
def onesI (n : Int) : Int := 2 ^ (bitLen n.toNat) - 1
def xorsP (a b : Int × Int) : Int × Int :=
  if 0 ≤ a.1 ∧ 0 ≤ b.1 then (0, onesI (max a.2 b.2))
  else if a.2 < 0 ∧ b.2 < 0 then (0, onesI (max (-1 - a.1) (-1 - b.1)))
  else if a.2 < 0 ∧ 0 ≤ b.1 then (-1 - onesI (max (-1 - a.1) b.2), -1)
  else if 0 ≤ a.1 ∧ b.2 < 0 then (-1 - onesI (max a.2 (-1 - b.1)), -1)
  else allP
def lessP (a b : Int × Int) : Int × Int :=
  if a.2 < b.1 then (1, 1) else if b.2 ≤ a.1 then (0, 0) else (0, 1)
def sameP (a b : Int × Int) : Int × Int :=
  if a.2 < b.1 ∨ b.2 < a.1 then (0, 0)
  else if a.1 = a.2 ∧ a.1 = b.1 ∧ a.2 = b.2 then (1, 1) else (0, 1)
/-- what comes of two Spans -/
def twoP (op : Int) (a b : Int × Int) : (Int × Int) × Bool :=
  if op = 4 then (sumsP a b, true)
  else if op = 5 then (diffsP a b, true)
  else if op = 6 then (prodsP a b, true)
  else if op = 7 then quotsP a b
  else if op = 8 then remsP a b
  else if op = 9 then (andsP a b, true)
  else if op = 10 then (xorsP a b, true)
  else if op = 11 then (lessP a b, true)
  else if op = 12 then (sameP a b, true)
  else ((0, 0), false)

/-! products -/
theorem mul_hullR (x l h y : Int) (h1 : l ≤ y) (h2 : y ≤ h) : min (x * l) (x * h) ≤ x * y ∧ x * y ≤ max (x * l) (x * h) := by
  rcases Int.le_total 0 x with hx | hx
  · have e1 := Int.mul_le_mul_of_nonneg_left h1 hx
    have e2 := Int.mul_le_mul_of_nonneg_left h2 hx
    omega
  · have e1 := Int.mul_le_mul_of_nonpos_left hx h1
    have e2 := Int.mul_le_mul_of_nonpos_left hx h2
    omega
theorem mul_hullL (y l h x : Int) (h1 : l ≤ x) (h2 : x ≤ h) : min (l * y) (h * y) ≤ x * y ∧ x * y ≤ max (l * y) (h * y) := by
  have := mul_hullR y l h x h1 h2
  rw [Int.mul_comm y l, Int.mul_comm y h, Int.mul_comm y x] at this
  exact this
theorem mul_hull (a b : Int × Int) (x y : Int) (hx : In a x) (hy : In b y) :
    mn (a.1 * b.1) (a.1 * b.2) (a.2 * b.1) (a.2 * b.2) ≤ x * y ∧ x * y ≤ mx (a.1 * b.1) (a.1 * b.2) (a.2 * b.1) (a.2 * b.2) := by
  have e := mul_hullR x b.1 b.2 y hy.1 hy.2
  have e1 := mul_hullL b.1 a.1 a.2 x hx.1 hx.2
  have e2 := mul_hullL b.2 a.1 a.2 x hx.1 hx.2
  unfold mn mx
  omega
/-! quotients -/
theorem tdiv_nn (a c : Int) (ha : 0 ≤ a) (hc : 0 < c) : 0 ≤ a.tdiv c := by
  rw [Int.tdiv_eq_ediv_of_nonneg ha]
  exact Int.ediv_nonneg ha (by omega)
theorem tdiv_up0 (a b c : Int) (ha : 0 ≤ a) (h : a ≤ b) (hc : 0 < c) : a.tdiv c ≤ b.tdiv c := by
  rw [Int.tdiv_eq_ediv_of_nonneg ha, Int.tdiv_eq_ediv_of_nonneg (by omega)]
  exact Int.ediv_le_ediv hc h
theorem tdiv_up (a b c : Int) (h : a ≤ b) (hc : 0 < c) : a.tdiv c ≤ b.tdiv c := by
  rcases Int.le_total 0 a with ha | ha
  · exact tdiv_up0 a b c ha h hc
  · rcases Int.le_total 0 b with hb | hb
    · have e1 := tdiv_nn b c hb hc
      have e2 := tdiv_nn (-a) c (by omega) hc
      rw [Int.neg_tdiv] at e2
      omega
    · have e := tdiv_up0 (-b) (-a) c (by omega) (by omega) hc
      rw [Int.neg_tdiv, Int.neg_tdiv] at e
      omega
theorem tdiv_den0 (a l y : Int) (ha : 0 ≤ a) (hl : 0 < l) (h : l ≤ y) : a.tdiv y ≤ a.tdiv l := by
  rw [Int.tdiv_eq_ediv_of_nonneg ha, Int.tdiv_eq_ediv_of_nonneg ha]
  refine Int.le_ediv_of_mul_le hl ?_
  have e1 : a / y * l ≤ a / y * y := Int.mul_le_mul_of_nonneg_left h (Int.ediv_nonneg ha (by omega))
  have e2 : a / y * y ≤ a := Int.ediv_mul_le a (by omega)
  omega
theorem div_pos (x l h y : Int) (hl : 0 < l) (h1 : l ≤ y) (h2 : y ≤ h) : min (x.tdiv l) (x.tdiv h) ≤ x.tdiv y ∧ x.tdiv y ≤ max (x.tdiv l) (x.tdiv h) := by
  rcases Int.le_total 0 x with hx | hx
  · have e1 := tdiv_den0 x l y hx hl h1
    have e2 := tdiv_den0 x y h hx (by omega) h2
    omega
  · have e1 := tdiv_den0 (-x) l y (by omega) hl h1
    have e2 := tdiv_den0 (-x) y h (by omega) (by omega) h2
    rw [Int.neg_tdiv, Int.neg_tdiv] at e1 e2
    omega
theorem div_neg (x l h y : Int) (hl : h < 0) (h1 : l ≤ y) (h2 : y ≤ h) : min (x.tdiv l) (x.tdiv h) ≤ x.tdiv y ∧ x.tdiv y ≤ max (x.tdiv l) (x.tdiv h) := by
  have e := div_pos x (-h) (-l) (-y) (by omega) (by omega) (by omega)
  rw [Int.tdiv_neg, Int.tdiv_neg, Int.tdiv_neg] at e
  omega
theorem div_num (y l h x : Int) (hy : y ≠ 0) (h1 : l ≤ x) (h2 : x ≤ h) : min (l.tdiv y) (h.tdiv y) ≤ x.tdiv y ∧ x.tdiv y ≤ max (l.tdiv y) (h.tdiv y) := by
  rcases Int.lt_or_gt_of_ne hy with hy | hy
  · have e1 := tdiv_up l x (-y) h1 (by omega)
    have e2 := tdiv_up x h (-y) h2 (by omega)
    rw [Int.tdiv_neg, Int.tdiv_neg] at e1 e2
    omega
  · have e1 := tdiv_up l x y h1 hy
    have e2 := tdiv_up x h y h2 hy
    omega
theorem quo_hull (a b : Int × Int) (x y : Int) (hb : 0 < b.1 ∨ b.2 < 0) (hx : In a x) (hy : In b y) : In (quoP a b) (x.tdiv y) := by
  obtain ⟨y1, y2⟩ := hy
  have e : min (x.tdiv b.1) (x.tdiv b.2) ≤ x.tdiv y ∧ x.tdiv y ≤ max (x.tdiv b.1) (x.tdiv b.2) := by
    rcases hb with hb | hb
    · exact div_pos x b.1 b.2 y hb y1 y2
    · exact div_neg x b.1 b.2 y hb y1 y2
  have e1 := div_num b.1 a.1 a.2 x (by omega) hx.1 hx.2
  have e2 := div_num b.2 a.1 a.2 x (by omega) hx.1 hx.2
  unfold In quoP mn mx
  dsimp only
  omega
/-! rests -/
theorem tmod_bd (x y : Int) (hy : y ≠ 0) : (0 ≤ x → 0 ≤ x.tmod y ∧ x.tmod y ≤ x) ∧ (x ≤ 0 → x ≤ x.tmod y ∧ x.tmod y ≤ 0) ∧ (x.tmod y).natAbs < y.natAbs := by
  have e := Int.natAbs_tmod x y
  have e2 := Nat.mod_lt x.natAbs (y := y.natAbs) (by omega)
  have e3 := Nat.mod_le x.natAbs y.natAbs
  refine ⟨fun h => ?_, fun h => ?_, by omega⟩
  · have := Int.tmod_nonneg y h
    omega
  · have := Int.tmod_nonneg (a := -x) y (by omega)
    rw [Int.neg_tmod] at this
    omega
/-! bit by bit -/
theorem of_nn (x : Int) (h0 : 0 ≤ x) (h1 : x ≤ 9223372036854775807) : (BitVec.ofInt 64 x).toNat = x.toNat := by
  rw [BitVec.toNat_ofInt]
  omega
theorem of_ng (x : Int) (h0 : -9223372036854775808 ≤ x) (h1 : x < 0) : ((BitVec.ofInt 64 x).toNat : Int) = 18446744073709551616 + x := by
  rw [BitVec.toNat_ofInt]
  omega
theorem toInt_small (v : BitVec 64) (h : v.toNat < 9223372036854775808) : v.toInt = (v.toNat : Int) := by
  rw [BitVec.toInt_eq_toNat_bmod, Int.bmod]
  split <;> omega
theorem toInt_great (v : BitVec 64) (h : 9223372036854775808 ≤ v.toNat) : v.toInt = (v.toNat : Int) - 18446744073709551616 := by
  have := v.isLt
  rw [BitVec.toInt_eq_toNat_bmod, Int.bmod]
  split <;> omega
theorem and_comm64 (x y : Int) : bits .and .i64 x y = bits .and .i64 y x := by
  rw [bits_and_toInt, bits_and_toInt, BitVec.and_comm]
theorem and_nn (x y : Int) (h0 : 0 ≤ x) (h1 : x ≤ 9223372036854775807) : 0 ≤ bits .and .i64 x y ∧ bits .and .i64 x y ≤ x := by
  rw [bits_and_toInt]
  have e : (BitVec.ofInt 64 x &&& BitVec.ofInt 64 y).toNat ≤ x.toNat := by
    rw [BitVec.toNat_and, of_nn x h0 h1]
    exact Nat.and_le_left
  rw [toInt_small _ (by omega)]
  omega
theorem and_ng (x y : Int) (h0 : -9223372036854775808 ≤ x) (h1 : x < 0) (h2 : -9223372036854775808 ≤ y) (h3 : y < 0) : bits .and .i64 x y ≤ x := by
  have hn := (and_neg x y h0 (by omega) h2 (by omega)).2 ⟨h1, h3⟩
  rw [bits_and_toInt] at hn ⊢
  have e : (BitVec.ofInt 64 x &&& BitVec.ofInt 64 y).toNat ≤ (BitVec.ofInt 64 x).toNat := by
    rw [BitVec.toNat_and]
    exact Nat.and_le_left
  have e2 := of_ng x h0 h1
  by_cases h : (BitVec.ofInt 64 x &&& BitVec.ofInt 64 y).toNat < 9223372036854775808
  · rw [toInt_small _ h] at hn
    omega
  · rw [toInt_great _ (by omega)]
    omega
theorem not_of (x : Int) : ~~~ (BitVec.ofInt 64 x) = BitVec.ofInt 64 (-1 - x) := by
  apply BitVec.eq_of_toNat_eq
  rw [BitVec.toNat_not, BitVec.toNat_ofInt, BitVec.toNat_ofInt]
  omega
theorem not_toInt (v : BitVec 64) : (~~~ v).toInt = -1 - v.toInt := by
  have := v.isLt
  rw [BitVec.toInt_eq_toNat_bmod, BitVec.toInt_eq_toNat_bmod, BitVec.toNat_not, Int.bmod, Int.bmod]
  split <;> split <;> omega
theorem xor_comm64 (x y : Int) : bits .xor .i64 x y = bits .xor .i64 y x := by
  rw [bits_xor_toInt, bits_xor_toInt, BitVec.xor_comm]
theorem xor_pp (x y : Int) (k : Nat) (hk : k ≤ 63) (h0 : 0 ≤ x) (h1 : x < 2 ^ k) (h2 : 0 ≤ y) (h3 : y < 2 ^ k) : 0 ≤ bits .xor .i64 x y ∧ bits .xor .i64 x y < 2 ^ k := by
  have hp : (2 : Nat) ^ k ≤ 2 ^ 63 := Nat.pow_le_pow_right (by omega) hk
  have hc : ((2 : Int) ^ k) = ((2 ^ k : Nat) : Int) := by push_cast; rfl
  rw [hc] at h1 h3 ⊢
  rw [bits_xor_toInt]
  have e : (BitVec.ofInt 64 x ^^^ BitVec.ofInt 64 y).toNat < 2 ^ k := by
    rw [BitVec.toNat_xor, of_nn x h0 (by omega), of_nn y h2 (by omega)]
    exact Nat.xor_lt_two_pow (by omega) (by omega)
  rw [toInt_small _ (by omega)]
  omega
theorem xor_nn (x y : Int) : bits .xor .i64 x y = bits .xor .i64 (-1 - x) (-1 - y) := by
  rw [bits_xor_toInt, bits_xor_toInt, ← not_of, ← not_of]
  congr 1
  ext i
  simp
theorem xor_np (x y : Int) : bits .xor .i64 x y = -1 - bits .xor .i64 (-1 - x) y := by
  rw [bits_xor_toInt, bits_xor_toInt, ← not_of, ← not_toInt]
  congr 1
  ext i
  simp
/-! ones -/
theorem ones_lt (n : Int) (h : 0 ≤ n) : n ≤ onesI n := by
  have e := (bitLen_spec n.toNat).1
  unfold onesI
  have hc : ((2 : Int) ^ bitLen n.toNat) = ((2 ^ bitLen n.toNat : Nat) : Int) := by push_cast; rfl
  rw [hc]
  omega
theorem bitLen_mono (a b : Nat) (h : a ≤ b) : bitLen a ≤ bitLen b := by
  by_cases hl : bitLen a ≤ bitLen b
  · exact hl
  exfalso
  have e1 := (bitLen_spec b).1
  have ha : a ≠ 0 := by
    intro h0
    rw [h0] at hl
    simp [bitLen] at hl
  have e2 := (bitLen_spec a).2 ha
  have e3 : 2 ^ bitLen b ≤ 2 ^ (bitLen a - 1) := Nat.pow_le_pow_right (by omega) (by omega)
  omega
theorem bitLen_63 (n : Int) (h1 : n ≤ 9223372036854775807) : bitLen n.toNat ≤ 63 := by
  have := bitLen_mono n.toNat 9223372036854775807 (by omega)
  have e : bitLen 9223372036854775807 = 63 := by decide +kernel
  omega
theorem ones_mono (a b : Int) (h : a ≤ b) : onesI a ≤ onesI b := by
  have e := bitLen_mono a.toNat b.toNat (by omega)
  have e3 : 2 ^ bitLen a.toNat ≤ 2 ^ bitLen b.toNat := Nat.pow_le_pow_right (by omega) e
  unfold onesI
  have hc : ((2 : Int) ^ bitLen a.toNat) = ((2 ^ bitLen a.toNat : Nat) : Int) := by push_cast; rfl
  have hd : ((2 : Int) ^ bitLen b.toNat) = ((2 ^ bitLen b.toNat : Nat) : Int) := by push_cast; rfl
  rw [hc, hd]
  omega
theorem ones_bd (n : Int) (h1 : n ≤ 9223372036854775807) : 0 ≤ onesI n ∧ onesI n ≤ 9223372036854775807 := by
  have e := bitLen_63 n h1
  have e3 : 2 ^ bitLen n.toNat ≤ 2 ^ 63 := Nat.pow_le_pow_right (by omega) e
  have e4 : 0 < 2 ^ bitLen n.toNat := Nat.pow_pos (by omega)
  unfold onesI
  have hc : ((2 : Int) ^ bitLen n.toNat) = ((2 ^ bitLen n.toNat : Nat) : Int) := by push_cast; rfl
  rw [hc]
  omega
theorem xor_ones (x y n : Int) (hn : n ≤ 9223372036854775807) (h0 : 0 ≤ x) (h1 : x ≤ n) (h2 : 0 ≤ y) (h3 : y ≤ n) : 0 ≤ bits .xor .i64 x y ∧ bits .xor .i64 x y ≤ onesI n := by
  have e := ones_lt n (by omega)
  have e2 := bitLen_63 n hn
  unfold onesI at e ⊢
  have := xor_pp x y (bitLen n.toNat) e2 h0 (by omega) h2 (by omega)
  omega
end Go.Proofs.Ytpegiljajlljkaa
