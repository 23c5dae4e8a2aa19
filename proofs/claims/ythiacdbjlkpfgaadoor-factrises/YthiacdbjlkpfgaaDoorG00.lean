import Derived.Laws.BitsAll
import Derived.WalkKit
import Derived.Test.YthiacdbjlkpfgaaDoorProg
import Derived.WalkSpells
import Derived.ProofKit
import Derived.Below
import Derived.Deep.RegionHeld3
import Derived.RegionTactic
import Derived.WalkSmall
namespace Go.Proofs.YthiacdbjlkpfgaaDoor
open Go.RowKit
/-- the lowest three -/
def low (a : Int) : BitVec 3 := BitVec.ofInt 3 a
/-- as a number -/
def up (x : BitVec 3) : Int := (x.toNat : Int)
theorem up_low (r : Int) (h0 : 0 ≤ r) (h1 : r < 8) : r = up (low r) := by
  unfold up low
  rw [BitVec.toNat_ofInt]
  omega
theorem low_up (x : BitVec 3) : low (up x) = x := by
  unfold up low
  simp
theorem up_bd (x : BitVec 3) : 0 ≤ up x ∧ up x < 8 := by
  unfold up
  have := x.isLt
  omega
theorem wrap_toInt (x : BitVec 64) : IntKind.i64.wrap (x.toNat : Int) = x.toInt := by
  rw [IntKind.wrap_i64, BitVec.toInt_eq_toNat_bmod, Int.bmod]
  have := x.isLt
  split <;> omega
theorem low_toInt (x : BitVec 64) : low x.toInt = x.setWidth 3 := by
  unfold low
  show x.signExtend 3 = _
  rw [BitVec.signExtend_eq_setWidth_of_le _ (by omega)]
theorem low_of64 (a : Int) : (BitVec.ofInt 64 a).setWidth 3 = low a := by
  apply BitVec.eq_of_toNat_eq
  unfold low
  rw [BitVec.toNat_setWidth, BitVec.toNat_ofInt, BitVec.toNat_ofInt]
  omega
theorem low_and (a b : Int) : low (bits .and .i64 a b) = low a &&& low b := by
  show low (IntKind.i64.wrap ((BitVec.ofInt 64 a &&& BitVec.ofInt 64 b).toNat : Int)) = _
  rw [wrap_toInt, low_toInt, BitVec.setWidth_and, low_of64, low_of64]
theorem low_or (a b : Int) : low (bits .or .i64 a b) = low a ||| low b := by
  show low (IntKind.i64.wrap ((BitVec.ofInt 64 a ||| BitVec.ofInt 64 b).toNat : Int)) = _
  rw [wrap_toInt, low_toInt, BitVec.setWidth_or, low_of64, low_of64]
theorem low_xor (a b : Int) : low (bits .xor .i64 a b) = low a ^^^ low b := by
  show low (IntKind.i64.wrap ((BitVec.ofInt 64 a ^^^ BitVec.ofInt 64 b).toNat : Int)) = _
  rw [wrap_toInt, low_toInt, BitVec.setWidth_xor, low_of64, low_of64]
theorem low_andNot (a b : Int) : low (bits .andNot .i64 a b) = low a &&& ~~~ low b := by
  show low (IntKind.i64.wrap ((BitVec.ofInt 64 a &&& ~~~ BitVec.ofInt 64 b).toNat : Int)) = _
  rw [wrap_toInt, low_toInt, BitVec.setWidth_and, BitVec.setWidth_not (by omega), low_of64, low_of64]
theorem and_bd (a c : Int) (h0 : 0 ≤ c) (h1 : c < 8) : 0 ≤ bits .and .i64 a c ∧ bits .and .i64 a c < 8 := by
  show 0 ≤ IntKind.i64.wrap ((BitVec.ofInt 64 a &&& BitVec.ofInt 64 c).toNat : Int) ∧ IntKind.i64.wrap ((BitVec.ofInt 64 a &&& BitVec.ofInt 64 c).toNat : Int) < 8
  have h : (BitVec.ofInt 64 a &&& BitVec.ofInt 64 c).toNat ≤ (BitVec.ofInt 64 c).toNat := by rw [BitVec.toNat_and]; exact Nat.and_le_right
  have h2 : (BitVec.ofInt 64 c).toNat < 8 := by rw [BitVec.toNat_ofInt]; omega
  rw [IntKind.wrap_i64]
  omega
/-- '&' with a mask below 8 -/
theorem and_up (a c : Int) (h0 : 0 ≤ c) (h1 : c < 8) : bits .and .i64 a c = up (low a &&& low c) := by
  rw [← low_and]
  exact up_low _ (and_bd a c h0 h1).1 (and_bd a c h0 h1).2
theorem or_bd (a c : Int) (a0 : 0 ≤ a) (a1 : a < 8) (h0 : 0 ≤ c) (h1 : c < 8) : 0 ≤ bits .or .i64 a c ∧ bits .or .i64 a c < 8 := by
  show 0 ≤ IntKind.i64.wrap ((BitVec.ofInt 64 a ||| BitVec.ofInt 64 c).toNat : Int) ∧ IntKind.i64.wrap ((BitVec.ofInt 64 a ||| BitVec.ofInt 64 c).toNat : Int) < 8
  have h2 : (BitVec.ofInt 64 c).toNat < 2 ^ 3 := by rw [BitVec.toNat_ofInt]; omega
  have h3 : (BitVec.ofInt 64 a).toNat < 2 ^ 3 := by rw [BitVec.toNat_ofInt]; omega
  have h : (BitVec.ofInt 64 a ||| BitVec.ofInt 64 c).toNat < 2 ^ 3 := by rw [BitVec.toNat_or]; exact Nat.or_lt_two_pow h3 h2
  rw [IntKind.wrap_i64]
  omega
theorem or_up (x y : BitVec 3) : bits .or .i64 (up x) (up y) = up (x ||| y) := by
  have h := up_low _ (or_bd (up x) (up y) (up_bd x).1 (up_bd x).2 (up_bd y).1 (up_bd y).2).1 (or_bd (up x) (up y) (up_bd x).1 (up_bd x).2 (up_bd y).1 (up_bd y).2).2
  rw [h, low_or, low_up, low_up]
theorem and_upup (x y : BitVec 3) : bits .and .i64 (up x) (up y) = up (x &&& y) := by
  rw [and_up _ _ (up_bd y).1 (up_bd y).2, low_up, low_up]
theorem up_inj {x y : BitVec 3} (h : up x = up y) : x = y := by rw [← low_up x, ← low_up y, h]
theorem up_beq (x y : BitVec 3) : (up x == up y) = (x == y) := by
  rw [Bool.eq_iff_iff]
  simp only [beq_iff_eq]
  exact ⟨up_inj, fun h => by rw [h]⟩
theorem up_bne0 (x : BitVec 3) : (up x != 0) = (x != 0) := by
  have := up_beq x 0
  rw [show up 0 = 0 from rfl] at this
  simp [bne, this]
/-- a bit of the lowest three -/
def bt (x : BitVec 3) (i : Nat) : Bool := x.getLsbD i
theorem low_shr (a : Int) (i : Nat) (hi : i < 3) : bits .and .i64 (a / 2 ^ i) 1 = if bt (low a) i then 1 else 0 := by
  rw [and_up _ _ (by omega) (by omega)]
  have h1 : (low (a / 2 ^ i)).toNat = ((a / 2 ^ i) % 8).toNat := by unfold low; rw [BitVec.toNat_ofInt]; rfl
  have h2 : (low a).toNat = (a % 8).toNat := by unfold low; rw [BitVec.toNat_ofInt]; rfl
  have h3 : bt (low a) i = ((low a).toNat).testBit i := rfl
  have h4 : up (low (a / 2 ^ i) &&& low 1) = (((low (a / 2 ^ i)).toNat &&& 1 : Nat) : Int) := by
    unfold up; rw [BitVec.toNat_and]; rfl
  rw [h4, h3, h1, h2, Nat.and_one_is_mod, Nat.testBit_eq_decide_div_mod_eq]
  match i, hi with
  | 0, _ => simp; split <;> omega
  | 1, _ => simp; split <;> omega
  | 2, _ => simp; split <;> omega
end Go.Proofs.YthiacdbjlkpfgaaDoor
namespace Go.Proofs.YthiacdbjlkpfgaaDoor
open Go.RowKit
def i64 (n : Int) : Prop := -9223372036854775808 ≤ n ∧ n ≤ 9223372036854775807
theorem ret_int {k : IntKind} {a b : Int} (h : a = b) : Ending.returned (.int k a) = .returned (.int k b) := by rw [h]
theorem ret_bool {a b : Bool} (h : a = b) : Ending.returned (.bool a) = .returned (.bool b) := by rw [h]
theorem and7 (x : BitVec 3) : x &&& 7#3 = x := by revert x; decide
/-- a number's sign -/
def sg (n : Int) : BitVec 3 := if n < 0 then 1 else if n = 0 then 2 else 4
theorem sg_pos {n : Int} (h : ¬ n < 0) (h0 : ¬ n = 0) : sg n = 4 := by simp [sg, h, h0]
/-- even, odd -/
def pr (n : Int) : BitVec 3 := if n % 2 = 0 then 1 else 2
theorem sof_any (n : Int) (w : World) : Calls Tryd.prog 49 #[.int .i64 n] w fun e w' => e = .returned (.int .i64 (up (sg n))) ∧ w' = w := by
  by_cases h : n < 0
  · go_enter Tryd.func49, Tryd.ntmps49; go_wp2; go_ret; exact ⟨by simp [sg, h, up], rfl⟩
  by_cases h0 : n = 0
  · subst h0; go_enter Tryd.func49, Tryd.ntmps49; go_wp2; go_ret; exact ⟨by simp [sg, up], rfl⟩
  have h1 : 0 < n := by omega
  go_enter Tryd.func49, Tryd.ntmps49; go_wp2; go_ret; exact ⟨ret_int (by rw [sg_pos (n := n) (by omega) (by omega)]; rfl), rfl⟩
/-- is a number's sign in a set? -/
def hasS (x : BitVec 3) (n : Int) : Bool := (x &&& sg n) != 0
theorem has_eq (a n : Int) : (bits .and .i64 a (up (sg n)) != 0) = hasS (low a) n := by
  rw [and_up _ _ (up_bd _).1 (up_bd _).2, low_up, up_bne0]; rfl
theorem shas_any (a n : Int) (w : World) : Calls Tryd.prog 25 #[.int .i64 a, .int .i64 n] w fun e w' => e = .returned (.bool (hasS (low a) n)) ∧ w' = w := by
  go_enter Tryd.func25, Tryd.ntmps25
  go_wp2_with (go_at_call 49; refine (sof_any _ _).mono ?_; rintro e w' ⟨rfl, rfl⟩)
  go_ret
  exact ⟨ret_bool (has_eq _ _), rfl⟩
theorem sright_any (a : Int) (w : World) : Calls Tryd.prog 69 #[.int .i64 a] w fun e w' => e = .returned (.bool (decide (1 ≤ a) && decide (a ≤ 7))) ∧ w' = w := by
  by_cases h : 1 ≤ a <;> by_cases h2 : a ≤ 7 <;>
  · go_enter Tryd.func69, Tryd.ntmps69
    go_wp2
    go_ret
    exact ⟨by simp [*], rfl⟩
theorem sjoin_any (a b : Int) (w : World) : Calls Tryd.prog 41 #[.int .i64 a, .int .i64 b] w fun e w' => e = .returned (.int .i64 (up (low a ||| low b))) ∧ w' = w := by
  go_enter Tryd.func41, Tryd.ntmps41
  go_wp2
  go_ret
  exact ⟨ret_int (by rw [and_up _ _ (by omega) (by omega), low_or, show low 7 = 7#3 from rfl, and7]), rfl⟩
theorem smeet_any (a b : Int) (w : World) : Calls Tryd.prog 67 #[.int .i64 a, .int .i64 b] w fun e w' => e = .returned (.int .i64 (up (low a &&& low b))) ∧ w' = w := by
  go_enter Tryd.func67, Tryd.ntmps67
  go_wp2
  go_ret
  exact ⟨ret_int (by rw [and_up _ _ (by omega) (by omega), low_and, show low 7 = 7#3 from rfl, and7]), rfl⟩
def withinS (x y : BitVec 3) : Bool := (x &&& ~~~ y) == 0
theorem swithin_any (a b : Int) (w : World) : Calls Tryd.prog 45 #[.int .i64 a, .int .i64 b] w fun e w' => e = .returned (.bool (withinS (low a) (low b))) ∧ w' = w := by
  go_enter Tryd.func45, Tryd.ntmps45
  go_wp2
  go_ret
  exact ⟨ret_bool (by rw [and_up _ _ (by omega) (by omega), low_andNot, show low 7 = 7#3 from rfl, and7]; exact up_beq _ 0), rfl⟩
end Go.Proofs.YthiacdbjlkpfgaaDoor
namespace Go.Proofs.YthiacdbjlkpfgaaDoor
open Go.RowKit
theorem pr_or (n : Int) : n % 2 = 0 ∨ n % 2 = 1 := by omega
theorem and_mod2 (n : Int) : bits .and .i64 n 1 = n % 2 := by
  have h := low_shr n 0 (by omega)
  have e : n / 2 ^ 0 = n := by simp
  rw [e] at h
  rw [h]
  have h2 : bt (low n) 0 = ((low n).toNat).testBit 0 := rfl
  have h3 : (low n).toNat = (n % 8).toNat := by unfold low; rw [BitVec.toNat_ofInt]; rfl
  rw [h2, h3, Nat.testBit_eq_decide_div_mod_eq]
  simp
  split <;> omega
theorem tmod2 (n : Int) : (n.tmod 2 == 0) = (n % 2 == 0) := by
  rw [Bool.eq_iff_iff]
  simp only [beq_iff_eq]
  constructor
  · intro h
    have := Int.dvd_of_tmod_eq_zero h
    omega
  · intro h
    exact Int.tmod_eq_zero_of_dvd (by omega)
theorem pof_any (n : Int) (w : World) : Calls Tryd.prog 52 #[.int .i64 n] w fun e w' => e = .returned (.int .i64 (up (pr n))) ∧ w' = w := by
  have h := and_mod2 n
  rcases pr_or n with h2 | h2
  · rw [h2] at h
    go_enter Tryd.func52, Tryd.ntmps52; go_wp2; go_ret; exact ⟨ret_int (by simp [pr, h2, up]), rfl⟩
  · rw [h2] at h
    go_enter Tryd.func52, Tryd.ntmps52; go_wp2; go_ret; exact ⟨ret_int (by simp [pr, h2, up]), rfl⟩
def hasP (x : BitVec 3) (n : Int) : Bool := (x &&& pr n) != 0
theorem hasp_eq (a n : Int) : (bits .and .i64 a (up (pr n)) != 0) = hasP (low a) n := by
  rw [and_up _ _ (up_bd _).1 (up_bd _).2, low_up, up_bne0]; rfl
theorem phas_any (a n : Int) (w : World) : Calls Tryd.prog 28 #[.int .i64 a, .int .i64 n] w fun e w' => e = .returned (.bool (hasP (low a) n)) ∧ w' = w := by
  go_enter Tryd.func28, Tryd.ntmps28
  go_wp2_with (go_at_call 52; refine (pof_any _ _).mono ?_; rintro e w' ⟨rfl, rfl⟩)
  go_ret
  exact ⟨ret_bool (hasp_eq _ _), rfl⟩
theorem pright_any (a : Int) (w : World) : Calls Tryd.prog 72 #[.int .i64 a] w fun e w' => e = .returned (.bool (decide (1 ≤ a) && decide (a ≤ 3))) ∧ w' = w := by
  by_cases h : 1 ≤ a <;> by_cases h2 : a ≤ 3 <;>
  · go_enter Tryd.func72, Tryd.ntmps72
    go_wp2
    go_ret
    exact ⟨by simp [*], rfl⟩
/-- the lowest two -/
def lp (a : Int) : BitVec 3 := low a &&& 3
theorem and3 (a : Int) : bits .and .i64 a 3 = up (lp a) := by rw [and_up _ _ (by omega) (by omega)]; rfl
theorem pjoin_any (a b : Int) (w : World) : Calls Tryd.prog 44 #[.int .i64 a, .int .i64 b] w fun e w' => e = .returned (.int .i64 (up (lp a ||| lp b))) ∧ w' = w := by
  go_enter Tryd.func44, Tryd.ntmps44
  go_wp2
  go_ret
  exact ⟨ret_int (by rw [and3, lp, low_or, show ∀ x y : BitVec 3, (x ||| y) &&& 3 = (x &&& 3) ||| (y &&& 3) by decide]; rfl), rfl⟩
theorem pmeet_any (a b : Int) (w : World) : Calls Tryd.prog 68 #[.int .i64 a, .int .i64 b] w fun e w' => e = .returned (.int .i64 (up (lp a &&& lp b))) ∧ w' = w := by
  go_enter Tryd.func68, Tryd.ntmps68
  go_wp2
  go_ret
  exact ⟨ret_int (by rw [and3, lp, low_and, show ∀ x y : BitVec 3, (x &&& y) &&& 3 = (x &&& 3) &&& (y &&& 3) by decide]; rfl), rfl⟩
theorem pwithin_any (a b : Int) (w : World) : Calls Tryd.prog 48 #[.int .i64 a, .int .i64 b] w fun e w' => e = .returned (.bool (withinS (lp a) (lp b))) ∧ w' = w := by
  go_enter Tryd.func48, Tryd.ntmps48
  go_wp2
  go_ret
  exact ⟨ret_bool (by rw [and3, lp, low_andNot, show ∀ x y : BitVec 3, (x &&& ~~~ y) &&& 3 = (x &&& 3) &&& ~~~ (y &&& 3) by decide]; exact up_beq _ 0), rfl⟩
end Go.Proofs.YthiacdbjlkpfgaaDoor
namespace Go.Proofs.YthiacdbjlkpfgaaDoor
open Go.RowKit
/-- a Span that is Right, of int64s -/
def Sp (s : Int × Int) : Prop := -9223372036854775808 ≤ s.1 ∧ s.1 ≤ s.2 ∧ s.2 ≤ 9223372036854775807
/-- new blocks alone -/
def New1 (w w' : World) : Prop := ∃ o, w' = w.alloc o
def New2 (w w' : World) : Prop := ∃ o p, w' = (w.alloc o).alloc p
def New3 (w w' : World) : Prop := ∃ o p q, w' = ((w.alloc o).alloc p).alloc q
def New4 (w w' : World) : Prop := ∃ o p q r, w' = (((w.alloc o).alloc p).alloc q).alloc r
def New5 (w w' : World) : Prop := ∃ o p q r s, w' = ((((w.alloc o).alloc p).alloc q).alloc r).alloc s
end Go.Proofs.YthiacdbjlkpfgaaDoor
namespace Go.Proofs.YthiacdbjlkpfgaaDoor
open Go.RowKit
/-- what both may be -/
def meetOk (ai : Bool) (an : Int) (bi : Bool) (bn : Int) : Bool := !(ai && bi && (an != bn))
def meetI (ai : Bool) (an : Int) (bi : Bool) (bn : Int) : Bool := (ai && (!bi || (an == bn))) || (!ai && bi)
def meetN (ai : Bool) (an : Int) (bi : Bool) (bn : Int) : Int := if ai = true then (if bi = true ∧ an ≠ bn then 0 else an) else if bi = true then bn else 0
def joinI (ai : Bool) (an : Int) (bi : Bool) (bn : Int) : Bool := ai && bi && (an == bn)
def joinN (ai : Bool) (an : Int) (bi : Bool) (bn : Int) : Int := if ai = true ∧ bi = true ∧ an = bn then an else 0
def withinK (ai : Bool) (an : Int) (bi : Bool) (bn : Int) : Bool := !bi || (ai && (an == bn))
def hasK (ai : Bool) (an n : Int) : Bool := !ai || (an == n)
def cleanN (ai : Bool) (an : Int) : Int := if ai = true then an else 0
def rightK (ai : Bool) (an : Int) : Bool := ai || (an == 0)
theorem kof_any (n : Int) (w : World) : Calls Tryd.prog 50 #[.int .i64 n] w fun e w' => e = .returned (.agg #[.bool true, .int .i64 n]) ∧ New1 w w' := by
  go_enter Tryd.func50, Tryd.ntmps50
  go_wp2
  exact bodyPost_ret (by simp [results, Tryd.results50, go_sem]; try rfl) rfl ⟨rfl, _, rfl⟩
theorem kany_any (w : World) : Calls Tryd.prog 53 #[] w fun e w' => e = .returned (.agg #[.bool false, .int .i64 0]) ∧ New1 w w' := by
  go_enter Tryd.func53, Tryd.ntmps53
  go_wp2
  exact bodyPost_ret (by simp [results, Tryd.results53, go_sem]; try rfl) rfl ⟨rfl, _, rfl⟩
theorem kright_any (ai : Bool) (an : Int) (w : World) : Calls Tryd.prog 70 #[.agg #[.bool ai, .int .i64 an]] w fun e w' => e = .returned (.bool (rightK ai an)) ∧ New1 w w' := by
  cases ai <;> by_cases h : an = 0 <;> (try subst h) <;>
  · go_enter Tryd.func70, Tryd.ntmps70
    go_wp2
    go_ret
    exact ⟨by simp [rightK, *], _, rfl⟩
theorem khas_any (ai : Bool) (an n : Int) (w : World) : Calls Tryd.prog 26 #[.agg #[.bool ai, .int .i64 an], .int .i64 n] w fun e w' => e = .returned (.bool (hasK ai an n)) ∧ New1 w w' := by
  cases ai <;> by_cases h : an = n <;> (try subst h) <;>
  · go_enter Tryd.func26, Tryd.ntmps26
    go_wp2
    go_ret
    exact ⟨by simp [hasK, *], _, rfl⟩
theorem kto_any (ai : Bool) (an : Int) (w : World) : Calls Tryd.prog 37 #[.agg #[.bool ai, .int .i64 an]] w fun e w' => e = .returned (.agg #[.bool ai, .int .i64 an]) ∧ New2 w w' := by
  go_enter Tryd.func37, Tryd.ntmps37
  go_wp2
  exact bodyPost_ret (by simp [results, Tryd.results37, go_sem]; try rfl) rfl ⟨rfl, _, _, rfl⟩
theorem krt_any (ai : Bool) (an : Int) (w : World) : Calls Tryd.prog 74 #[.agg #[.bool ai, .int .i64 an]] w fun e w' => e = .returned (.agg #[.bool ai, .int .i64 (cleanN ai an)]) ∧ Below w.heap.size w w' := by
  cases ai <;>
  · go_enter Tryd.func74, Tryd.ntmps74
    go_wp2_with (go_at_call 53; refine (kany_any _).mono ?_; rintro e w' ⟨rfl, o, rfl⟩)
    exact bodyPost_ret (by simp [results, Tryd.results74, go_sem]; try rfl) rfl ⟨by simp [cleanN], (by repeat (first | exact Below.refl _ _ | (refine Below.alloc ?_ (by simp; try omega) _) | (refine Below.setCell ?_ (by simp; try omega) _)))⟩
theorem kclean_any (ai : Bool) (an : Int) (w : World) : Calls Tryd.prog 39 #[.agg #[.bool ai, .int .i64 an]] w fun e w' => e = .returned (.agg #[.bool ai, .int .i64 (cleanN ai an)]) ∧ Below w.heap.size w w' := by
  cases ai <;>
  · go_enter Tryd.func39, Tryd.ntmps39
    go_wp2
    exact bodyPost_ret (by simp [results, Tryd.results39, go_sem]; try rfl) rfl ⟨by simp [cleanN], (by repeat (first | exact Below.refl _ _ | (refine Below.alloc ?_ (by simp; try omega) _) | (refine Below.setCell ?_ (by simp; try omega) _)))⟩
theorem bcell {W w1 : World} (hb : Below W.heap.size W w1) : (∀ b o, b < W.heap.size → w1.cell? ⟨b, o, none⟩ = W.cell? ⟨b, o, none⟩) ∧ (∀ b o, b < W.heap.size → w1.frozen? ⟨b, o, none⟩ = W.frozen? ⟨b, o, none⟩) :=
  ⟨fun b o h => hb.cell (p := ⟨b, o, none⟩) h, fun b o h => hb.frozen (p := ⟨b, o, none⟩) h⟩
set_option maxHeartbeats 2000000 in
theorem kmeet_any (ai : Bool) (an : Int) (bi : Bool) (bn : Int) (w : World) : Calls Tryd.prog 65 #[.agg #[.bool ai, .int .i64 an], .agg #[.bool bi, .int .i64 bn]] w fun e w' => e = .returned (.tuple #[.agg #[.bool (meetI ai an bi bn), .int .i64 (meetN ai an bi bn)], .bool (meetOk ai an bi bn)]) ∧ Below w.heap.size w w' := by
  have hA : ∀ x y, hasK false x y = true := fun _ _ => rfl
  have hB : ∀ x, hasK true x x = true := fun x => by simp [hasK]
  have hC : ¬ an = bn → hasK true bn an = false := fun h => by simp [hasK]; exact fun e => h e.symm
  cases ai <;> cases bi <;> by_cases h : an = bn <;> (try subst h) <;>
  · go_enter Tryd.func65, Tryd.ntmps65
    go_wp2_with (first | (go_at_call 74; refine (krt_any _ _ _).mono ?_; rintro e w' ⟨rfl, hb⟩; obtain ⟨hc, hf⟩ := bcell hb; have hz := hb.size; simp at hz) | (go_at_call 26; refine (khas_any _ _ _ _).mono ?_; rintro e w' ⟨rfl, o, rfl⟩) | (go_at_call 53; refine (kany_any _).mono ?_; rintro e w' ⟨rfl, o, rfl⟩))
    all_goals (exact bodyPost_ret (by simp [results, Tryd.results65, go_sem, *]; try rfl) rfl ⟨by simp [meetI, meetN, meetOk, cleanN, *], (by repeat (first | exact Below.refl _ _ | (refine Below.drew ?_) | (refine Below.setCell ?_ (by first | omega | (simp; done) | (simp; omega)) _) | (refine Below.alloc ?_ (by first | omega | (simp; done) | (simp; omega)) _) | (refine Below.trans ?_ (Below.mono (by assumption) (by first | omega | (simp; done) | (simp; omega))))))⟩)
set_option maxHeartbeats 2000000 in
theorem kjoin_any (ai : Bool) (an : Int) (bi : Bool) (bn : Int) (w : World) : Calls Tryd.prog 42 #[.agg #[.bool ai, .int .i64 an], .agg #[.bool bi, .int .i64 bn]] w fun e w' => e = .returned (.agg #[.bool (joinI ai an bi bn), .int .i64 (joinN ai an bi bn)]) ∧ Below w.heap.size w w' := by
  cases ai <;> cases bi <;> by_cases h : an = bn <;> (try subst h) <;>
  · go_enter Tryd.func42, Tryd.ntmps42
    go_wp2_with (first | (go_at_call 53; refine (kany_any _).mono ?_; rintro e w' ⟨rfl, o, rfl⟩))
    all_goals (exact bodyPost_ret (by simp [results, Tryd.results42, go_sem, *]; try rfl) rfl ⟨by simp [joinI, joinN, *], (by repeat (first | exact Below.refl _ _ | (refine Below.drew ?_) | (refine Below.setCell ?_ (by first | omega | (simp; done) | (simp; omega)) _) | (refine Below.alloc ?_ (by first | omega | (simp; done) | (simp; omega)) _) | (refine Below.trans ?_ (Below.mono (by assumption) (by first | omega | (simp; done) | (simp; omega))))))⟩)
set_option maxHeartbeats 2000000 in
theorem kwithin_any (ai : Bool) (an : Int) (bi : Bool) (bn : Int) (w : World) : Calls Tryd.prog 46 #[.agg #[.bool ai, .int .i64 an], .agg #[.bool bi, .int .i64 bn]] w fun e w' => e = .returned (.bool (withinK ai an bi bn)) ∧ Below w.heap.size w w' := by
  cases ai <;> cases bi <;> by_cases h : an = bn <;> (try subst h) <;>
  · go_enter Tryd.func46, Tryd.ntmps46
    go_wp2
    all_goals (go_ret; exact ⟨by simp [withinK, *], (by repeat (first | exact Below.refl _ _ | (refine Below.drew ?_) | (refine Below.setCell ?_ (by first | omega | (simp; done) | (simp; omega)) _) | (refine Below.alloc ?_ (by first | omega | (simp; done) | (simp; omega)) _) | (refine Below.trans ?_ (Below.mono (by assumption) (by first | omega | (simp; done) | (simp; omega))))))⟩)
end Go.Proofs.YthiacdbjlkpfgaaDoor
namespace Go.Proofs.YthiacdbjlkpfgaaDoor
open Go.RowKit
theorem nright_any (lo hi : Int) (w : World) : Calls Tryd.prog 71 #[.agg #[.int .i64 lo, .int .i64 hi]] w fun e w' => e = .returned (.bool (decide (lo ≤ hi))) ∧ New1 w w' := by
  go_enter Tryd.func71, Tryd.ntmps71
  go_wp2
  go_ret
  exact ⟨rfl, _, rfl⟩
theorem nto_any (lo hi : Int) (w : World) : Calls Tryd.prog 38 #[.agg #[.int .i64 lo, .int .i64 hi]] w fun e w' => e = .returned (.agg #[.int .i64 lo, .int .i64 hi]) ∧ New2 w w' := by
  go_enter Tryd.func38, Tryd.ntmps38
  go_wp2
  exact bodyPost_ret (by simp [results, Tryd.results38, go_sem]; try rfl) rfl ⟨rfl, _, _, rfl⟩
theorem nof_any (n : Int) (w : World) : Calls Tryd.prog 51 #[.int .i64 n] w fun e w' => e = .returned (.agg #[.int .i64 n, .int .i64 n]) ∧ New1 w w' := by
  go_enter Tryd.func51, Tryd.ntmps51
  go_wp2
  exact bodyPost_ret (by simp [results, Tryd.results51, go_sem]; try rfl) rfl ⟨rfl, _, rfl⟩
theorem nany_any (w : World) : Calls Tryd.prog 73 #[] w fun e w' => e = .returned (.agg #[.int .i64 (-9223372036854775808), .int .i64 9223372036854775807]) ∧ New1 w w' := by
  go_enter Tryd.func73, Tryd.ntmps73
  go_wp2
  exact bodyPost_ret (by simp [results, Tryd.results73, go_sem]; try rfl) rfl ⟨rfl, _, rfl⟩
def hasR (lo hi n : Int) : Bool := decide (lo ≤ n) && decide (n ≤ hi)
theorem nhas_any (lo hi n : Int) (w : World) : Calls Tryd.prog 27 #[.agg #[.int .i64 lo, .int .i64 hi], .int .i64 n] w fun e w' => e = .returned (.bool (hasR lo hi n)) ∧ New1 w w' := by
  by_cases h : lo ≤ n <;> by_cases h2 : n ≤ hi <;>
  · go_enter Tryd.func27, Tryd.ntmps27
    go_wp2
    go_ret
    exact ⟨by simp [hasR, *], _, rfl⟩
theorem nfix_any (lo hi : Int) (w : World) : Calls Tryd.prog 40 #[.agg #[.int .i64 lo, .int .i64 hi]] w fun e w' => e = .returned (.agg #[.int .i64 (min lo hi), .int .i64 (max lo hi)]) ∧ New2 w w' := by
  by_cases h : hi < lo
  · go_enter Tryd.func40, Tryd.ntmps40
    go_wp2
    exact bodyPost_ret (by simp [results, Tryd.results40, go_sem]; try rfl) rfl ⟨by rw [Int.min_eq_right (by omega), Int.max_eq_left (by omega)], _, _, rfl⟩
  · go_enter Tryd.func40, Tryd.ntmps40
    go_wp2
    exact bodyPost_ret (by simp [results, Tryd.results40, go_sem]; try rfl) rfl ⟨by rw [Int.min_eq_left (by omega), Int.max_eq_right (by omega)], _, _, rfl⟩
def withinR (al ah bl bh : Int) : Bool := decide (bl ≤ al) && decide (ah ≤ bh)
theorem nwithin_any (al ah bl bh : Int) (w : World) : Calls Tryd.prog 47 #[.agg #[.int .i64 al, .int .i64 ah], .agg #[.int .i64 bl, .int .i64 bh]] w fun e w' => e = .returned (.bool (withinR al ah bl bh)) ∧ New2 w w' := by
  by_cases h : bl ≤ al <;> by_cases h2 : ah ≤ bh <;>
  · go_enter Tryd.func47, Tryd.ntmps47
    go_wp2
    go_ret
    exact ⟨by simp [withinR, *], _, _, rfl⟩
theorem njoin_any (al ah bl bh : Int) (w : World) : Calls Tryd.prog 43 #[.agg #[.int .i64 al, .int .i64 ah], .agg #[.int .i64 bl, .int .i64 bh]] w fun e w' => e = .returned (.agg #[.int .i64 (min al bl), .int .i64 (max ah bh)]) ∧ New3 w w' := by
  by_cases h : al ≤ bl <;> by_cases h2 : ah ≤ bh <;>
  · go_enter Tryd.func43, Tryd.ntmps43
    go_wp2
    all_goals (exact bodyPost_ret (by simp [results, Tryd.results43, go_sem]; try rfl) rfl ⟨by simp only [Int.min_def, Int.max_def]; repeat' (first | rfl | split | (exfalso; omega) | (rw [show ah = bh by omega])), _, _, _, rfl⟩)
theorem ret_sb {x y : Int} {b : Bool} {r : (Int × Int) × Bool} (h1 : r.1.1 = x) (h2 : r.1.2 = y) (h3 : r.2 = b) : Ending.returned (.tuple #[.agg #[.int .i64 x, .int .i64 y], .bool b]) = Ending.returned (.tuple #[.agg #[.int .i64 (r.1).1, .int .i64 (r.1).2], .bool r.2]) := by subst h1 h2 h3; rfl
theorem ret_s {x y : Int} {r : Int × Int} (h1 : r.1 = x) (h2 : r.2 = y) : Ending.returned (.agg #[.int .i64 x, .int .i64 y]) = Ending.returned (.agg #[.int .i64 r.1, .int .i64 r.2]) := by subst h1 h2; rfl
def meetP (a b : Int × Int) : (Int × Int) × Bool := if max a.1 b.1 ≤ min a.2 b.2 then ((max a.1 b.1, min a.2 b.2), true) else ((0, 0), false)
end Go.Proofs.YthiacdbjlkpfgaaDoor
