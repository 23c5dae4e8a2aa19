import Derived.Laws.BitsAll
import Derived.WalkKit
import Derived.Test.YtmhicllhjiglkaaProg
import Derived.WalkSpells
import Derived.ProofKit
import Derived.Below
import Derived.Deep.RegionHeld3
import Derived.RegionTactic
import Derived.WalkSmall
import Derived.Lib.ItoaWalk
import Derived.Deep.CutBlock
import Derived.LoopTactic
import Derived.Deep.DeepCutAuto
import Derived.WalkLawsBesides
import Derived.BigQuiet
import Derived.Deep.QuietTactic
import Derived.OwnWalk
import Derived.Laws.MakeOwn
namespace Go.Proofs.Ytmhicllhjiglkaa
open Go.RowKit
/-- the lowest three -/
def low (a : Int) : BitVec 3 := BitVec.ofInt 3 a
/-- as a number -/
def up (x : BitVec 3) : Int := (x.toNat : Int)
theorem up_low (r : Int) (h0 : 0 ≤ r) (h1 : r < 8) : r = up (low r) := by
  unfold up low
  rw [BitVec.toNat_ofInt]
  omega
theorem low_up (x : BitVec 3) : low (up x) = x := by
  unfold up low
  simp
theorem up_bd (x : BitVec 3) : 0 ≤ up x ∧ up x < 8 := by
  unfold up
  have := x.isLt
  omega
theorem wrap_toInt (x : BitVec 64) : IntKind.i64.wrap (x.toNat : Int) = x.toInt := by
  rw [IntKind.wrap_i64, BitVec.toInt_eq_toNat_bmod, Int.bmod]
  have := x.isLt
  split <;> omega
theorem low_toInt (x : BitVec 64) : low x.toInt = x.setWidth 3 := by
  unfold low
  show x.signExtend 3 = _
  rw [BitVec.signExtend_eq_setWidth_of_le _ (by omega)]
theorem low_of64 (a : Int) : (BitVec.ofInt 64 a).setWidth 3 = low a := by
  apply BitVec.eq_of_toNat_eq
  unfold low
  rw [BitVec.toNat_setWidth, BitVec.toNat_ofInt, BitVec.toNat_ofInt]
  omega
theorem low_and (a b : Int) : low (bits .and .i64 a b) = low a &&& low b := by
  show low (IntKind.i64.wrap ((BitVec.ofInt 64 a &&& BitVec.ofInt 64 b).toNat : Int)) = _
  rw [wrap_toInt, low_toInt, BitVec.setWidth_and, low_of64, low_of64]
theorem low_or (a b : Int) : low (bits .or .i64 a b) = low a ||| low b := by
  show low (IntKind.i64.wrap ((BitVec.ofInt 64 a ||| BitVec.ofInt 64 b).toNat : Int)) = _
  rw [wrap_toInt, low_toInt, BitVec.setWidth_or, low_of64, low_of64]
theorem low_xor (a b : Int) : low (bits .xor .i64 a b) = low a ^^^ low b := by
  show low (IntKind.i64.wrap ((BitVec.ofInt 64 a ^^^ BitVec.ofInt 64 b).toNat : Int)) = _
  rw [wrap_toInt, low_toInt, BitVec.setWidth_xor, low_of64, low_of64]
theorem low_andNot (a b : Int) : low (bits .andNot .i64 a b) = low a &&& ~~~ low b := by
  show low (IntKind.i64.wrap ((BitVec.ofInt 64 a &&& ~~~ BitVec.ofInt 64 b).toNat : Int)) = _
  rw [wrap_toInt, low_toInt, BitVec.setWidth_and, BitVec.setWidth_not (by omega), low_of64, low_of64]
theorem and_bd (a c : Int) (h0 : 0 ≤ c) (h1 : c < 8) : 0 ≤ bits .and .i64 a c ∧ bits .and .i64 a c < 8 := by
  show 0 ≤ IntKind.i64.wrap ((BitVec.ofInt 64 a &&& BitVec.ofInt 64 c).toNat : Int) ∧ IntKind.i64.wrap ((BitVec.ofInt 64 a &&& BitVec.ofInt 64 c).toNat : Int) < 8
  have h : (BitVec.ofInt 64 a &&& BitVec.ofInt 64 c).toNat ≤ (BitVec.ofInt 64 c).toNat := by rw [BitVec.toNat_and]; exact Nat.and_le_right
  have h2 : (BitVec.ofInt 64 c).toNat < 8 := by rw [BitVec.toNat_ofInt]; omega
  rw [IntKind.wrap_i64]
  omega
/-- '&' with a mask below 8 -/
theorem and_up (a c : Int) (h0 : 0 ≤ c) (h1 : c < 8) : bits .and .i64 a c = up (low a &&& low c) := by
  rw [← low_and]
  exact up_low _ (and_bd a c h0 h1).1 (and_bd a c h0 h1).2
theorem or_bd (a c : Int) (a0 : 0 ≤ a) (a1 : a < 8) (h0 : 0 ≤ c) (h1 : c < 8) : 0 ≤ bits .or .i64 a c ∧ bits .or .i64 a c < 8 := by
  show 0 ≤ IntKind.i64.wrap ((BitVec.ofInt 64 a ||| BitVec.ofInt 64 c).toNat : Int) ∧ IntKind.i64.wrap ((BitVec.ofInt 64 a ||| BitVec.ofInt 64 c).toNat : Int) < 8
  have h2 : (BitVec.ofInt 64 c).toNat < 2 ^ 3 := by rw [BitVec.toNat_ofInt]; omega
  have h3 : (BitVec.ofInt 64 a).toNat < 2 ^ 3 := by rw [BitVec.toNat_ofInt]; omega
  have h : (BitVec.ofInt 64 a ||| BitVec.ofInt 64 c).toNat < 2 ^ 3 := by rw [BitVec.toNat_or]; exact Nat.or_lt_two_pow h3 h2
  rw [IntKind.wrap_i64]
  omega
theorem or_up (x y : BitVec 3) : bits .or .i64 (up x) (up y) = up (x ||| y) := by
  have h := up_low _ (or_bd (up x) (up y) (up_bd x).1 (up_bd x).2 (up_bd y).1 (up_bd y).2).1 (or_bd (up x) (up y) (up_bd x).1 (up_bd x).2 (up_bd y).1 (up_bd y).2).2
  rw [h, low_or, low_up, low_up]
theorem and_upup (x y : BitVec 3) : bits .and .i64 (up x) (up y) = up (x &&& y) := by
  rw [and_up _ _ (up_bd y).1 (up_bd y).2, low_up, low_up]
theorem up_inj {x y : BitVec 3} (h : up x = up y) : x = y := by rw [← low_up x, ← low_up y, h]
theorem up_beq (x y : BitVec 3) : (up x == up y) = (x == y) := by
  rw [Bool.eq_iff_iff]
  simp only [beq_iff_eq]
  exact ⟨up_inj, fun h => by rw [h]⟩
theorem up_bne0 (x : BitVec 3) : (up x != 0) = (x != 0) := by
  have := up_beq x 0
  rw [show up 0 = 0 from rfl] at this
  simp [bne, this]
/-- a bit of the lowest three -/
def bt (x : BitVec 3) (i : Nat) : Bool := x.getLsbD i
theorem low_shr (a : Int) (i : Nat) (hi : i < 3) : bits .and .i64 (a / 2 ^ i) 1 = if bt (low a) i then 1 else 0 := by
  rw [and_up _ _ (by omega) (by omega)]
  have h1 : (low (a / 2 ^ i)).toNat = ((a / 2 ^ i) % 8).toNat := by unfold low; rw [BitVec.toNat_ofInt]; rfl
  have h2 : (low a).toNat = (a % 8).toNat := by unfold low; rw [BitVec.toNat_ofInt]; rfl
  have h3 : bt (low a) i = ((low a).toNat).testBit i := rfl
  have h4 : up (low (a / 2 ^ i) &&& low 1) = (((low (a / 2 ^ i)).toNat &&& 1 : Nat) : Int) := by
    unfold up; rw [BitVec.toNat_and]; rfl
  rw [h4, h3, h1, h2, Nat.and_one_is_mod, Nat.testBit_eq_decide_div_mod_eq]
  match i, hi with
  | 0, _ => simp; split <;> omega
  | 1, _ => simp; split <;> omega
  | 2, _ => simp; split <;> omega
end Go.Proofs.Ytmhicllhjiglkaa
namespace Go.Proofs.Ytmhicllhjiglkaa
open Go.RowKit
def i64 (n : Int) : Prop := -9223372036854775808 ≤ n ∧ n ≤ 9223372036854775807
theorem ret_int {k : IntKind} {a b : Int} (h : a = b) : Ending.returned (.int k a) = .returned (.int k b) := by rw [h]
theorem ret_bool {a b : Bool} (h : a = b) : Ending.returned (.bool a) = .returned (.bool b) := by rw [h]
theorem and7 (x : BitVec 3) : x &&& 7#3 = x := by revert x; decide
/-- a number's sign -/
def sg (n : Int) : BitVec 3 := if n < 0 then 1 else if n = 0 then 2 else 4
theorem sg_pos {n : Int} (h : ¬ n < 0) (h0 : ¬ n = 0) : sg n = 4 := by simp [sg, h, h0]
/-- even, odd -/
def pr (n : Int) : BitVec 3 := if n % 2 = 0 then 1 else 2
theorem sof_any (n : Int) (w : World) : Calls Try.prog 81 #[.int .i64 n] w fun e w' => e = .returned (.int .i64 (up (sg n))) ∧ w' = w := by
  by_cases h : n < 0
  · go_enter Try.func81, Try.ntmps81; go_wp2; go_ret; exact ⟨by simp [sg, h, up], rfl⟩
  by_cases h0 : n = 0
  · subst h0; go_enter Try.func81, Try.ntmps81; go_wp2; go_ret; exact ⟨by simp [sg, up], rfl⟩
  have h1 : 0 < n := by omega
  go_enter Try.func81, Try.ntmps81; go_wp2; go_ret; exact ⟨ret_int (by rw [sg_pos (n := n) (by omega) (by omega)]; rfl), rfl⟩
theorem sofr_any (n : Int) (w : World) : Calls Try.prog 77 #[.int .i64 n] w fun e w' => e = .returned (.int .i64 (up (sg n))) ∧ w' = w := by
  by_cases h : n < 0
  · go_enter Try.func77, Try.ntmps77; go_wp2; go_ret; exact ⟨by simp [sg, h, up], rfl⟩
  by_cases h0 : n = 0
  · subst h0; go_enter Try.func77, Try.ntmps77; go_wp2; go_ret; exact ⟨by simp [sg, up], rfl⟩
  go_enter Try.func77, Try.ntmps77; go_wp2; go_ret; exact ⟨ret_int (by rw [sg_pos (n := n) (by omega) (by omega)]; rfl), rfl⟩
/-- is a number's sign in a set? -/
def hasS (x : BitVec 3) (n : Int) : Bool := (x &&& sg n) != 0
theorem has_eq (a n : Int) : (bits .and .i64 a (up (sg n)) != 0) = hasS (low a) n := by
  rw [and_up _ _ (up_bd _).1 (up_bd _).2, low_up, up_bne0]; rfl
theorem shas_any (a n : Int) (w : World) : Calls Try.prog 119 #[.int .i64 a, .int .i64 n] w fun e w' => e = .returned (.bool (hasS (low a) n)) ∧ w' = w := by
  go_enter Try.func119, Try.ntmps119
  go_wp2_with (go_at_call 81; refine (sof_any _ _).mono ?_; rintro e w' ⟨rfl, rfl⟩)
  go_ret
  exact ⟨ret_bool (has_eq _ _), rfl⟩
theorem shasr_any (a n : Int) (w : World) : Calls Try.prog 124 #[.int .i64 a, .int .i64 n] w fun e w' => e = .returned (.bool (hasS (low a) n)) ∧ w' = w := by
  go_enter Try.func124, Try.ntmps124
  go_wp2_with (go_at_call 77; refine (sofr_any _ _).mono ?_; rintro e w' ⟨rfl, rfl⟩)
  go_ret
  exact ⟨ret_bool (has_eq _ _), rfl⟩
theorem sright_any (a : Int) (w : World) : Calls Try.prog 104 #[.int .i64 a] w fun e w' => e = .returned (.bool (decide (1 ≤ a) && decide (a ≤ 7))) ∧ w' = w := by
  by_cases h : 1 ≤ a <;> by_cases h2 : a ≤ 7 <;>
  · go_enter Try.func104, Try.ntmps104
    go_wp2
    go_ret
    exact ⟨by simp [*], rfl⟩
theorem sjoin_any (a b : Int) (w : World) : Calls Try.prog 88 #[.int .i64 a, .int .i64 b] w fun e w' => e = .returned (.int .i64 (up (low a ||| low b))) ∧ w' = w := by
  go_enter Try.func88, Try.ntmps88
  go_wp2
  go_ret
  exact ⟨ret_int (by rw [and_up _ _ (by omega) (by omega), low_or, show low 7 = 7#3 from rfl, and7]), rfl⟩
def withinS (x y : BitVec 3) : Bool := (x &&& ~~~ y) == 0
theorem swithin_any (a b : Int) (w : World) : Calls Try.prog 95 #[.int .i64 a, .int .i64 b] w fun e w' => e = .returned (.bool (withinS (low a) (low b))) ∧ w' = w := by
  go_enter Try.func95, Try.ntmps95
  go_wp2
  go_ret
  exact ⟨ret_bool (by rw [and_up _ _ (by omega) (by omega), low_andNot, show low 7 = 7#3 from rfl, and7]; exact up_beq _ 0), rfl⟩
end Go.Proofs.Ytmhicllhjiglkaa
namespace Go.Proofs.Ytmhicllhjiglkaa
open Go.RowKit
theorem pr_or (n : Int) : n % 2 = 0 ∨ n % 2 = 1 := by omega
theorem and_mod2 (n : Int) : bits .and .i64 n 1 = n % 2 := by
  have h := low_shr n 0 (by omega)
  have e : n / 2 ^ 0 = n := by simp
  rw [e] at h
  rw [h]
  have h2 : bt (low n) 0 = ((low n).toNat).testBit 0 := rfl
  have h3 : (low n).toNat = (n % 8).toNat := by unfold low; rw [BitVec.toNat_ofInt]; rfl
  rw [h2, h3, Nat.testBit_eq_decide_div_mod_eq]
  simp
  split <;> omega
theorem tmod2 (n : Int) : (n.tmod 2 == 0) = (n % 2 == 0) := by
  rw [Bool.eq_iff_iff]
  simp only [beq_iff_eq]
  constructor
  · intro h
    have := Int.dvd_of_tmod_eq_zero h
    omega
  · intro h
    exact Int.tmod_eq_zero_of_dvd (by omega)
theorem pof_any (n : Int) (w : World) : Calls Try.prog 84 #[.int .i64 n] w fun e w' => e = .returned (.int .i64 (up (pr n))) ∧ w' = w := by
  have h := and_mod2 n
  rcases pr_or n with h2 | h2
  · rw [h2] at h
    go_enter Try.func84, Try.ntmps84; go_wp2; go_ret; exact ⟨ret_int (by simp [pr, h2, up]), rfl⟩
  · rw [h2] at h
    go_enter Try.func84, Try.ntmps84; go_wp2; go_ret; exact ⟨ret_int (by simp [pr, h2, up]), rfl⟩
theorem pofr_any (n : Int) (hn : i64 n) (w : World) : Calls Try.prog 78 #[.int .i64 n] w fun e w' => e = .returned (.int .i64 (up (pr n))) ∧ w' = w := by
  unfold i64 at hn
  obtain ⟨n1, n2⟩ := hn
  have h := tmod2 n
  rcases pr_or n with h2 | h2
  · have h3 : (n.tmod 2 == 0) = true := by rw [h]; simp [h2]
    have h4 : n.tmod 2 = 0 := by simpa using h3
    clear h
    go_enter Try.func78, Try.ntmps78; go_wp2; go_ret; exact ⟨ret_int (by simp [pr, h2, up]), rfl⟩
  · have h3 : (n.tmod 2 == 0) = false := by rw [h]; simp [h2]
    clear h
    go_enter Try.func78, Try.ntmps78; go_wp2; go_ret; exact ⟨ret_int (by simp [pr, h2, up]), rfl⟩
def hasP (x : BitVec 3) (n : Int) : Bool := (x &&& pr n) != 0
theorem hasp_eq (a n : Int) : (bits .and .i64 a (up (pr n)) != 0) = hasP (low a) n := by
  rw [and_up _ _ (up_bd _).1 (up_bd _).2, low_up, up_bne0]; rfl
theorem phas_any (a n : Int) (w : World) : Calls Try.prog 122 #[.int .i64 a, .int .i64 n] w fun e w' => e = .returned (.bool (hasP (low a) n)) ∧ w' = w := by
  go_enter Try.func122, Try.ntmps122
  go_wp2_with (go_at_call 84; refine (pof_any _ _).mono ?_; rintro e w' ⟨rfl, rfl⟩)
  go_ret
  exact ⟨ret_bool (hasp_eq _ _), rfl⟩
theorem phasr_any (a n : Int) (hn : i64 n) (w : World) : Calls Try.prog 127 #[.int .i64 a, .int .i64 n] w fun e w' => e = .returned (.bool (hasP (low a) n)) ∧ w' = w := by
  go_enter Try.func127, Try.ntmps127
  go_wp2_with (go_at_call 78; refine (pofr_any _ hn _).mono ?_; rintro e w' ⟨rfl, rfl⟩)
  go_ret
  exact ⟨ret_bool (hasp_eq _ _), rfl⟩
theorem pright_any (a : Int) (w : World) : Calls Try.prog 107 #[.int .i64 a] w fun e w' => e = .returned (.bool (decide (1 ≤ a) && decide (a ≤ 3))) ∧ w' = w := by
  by_cases h : 1 ≤ a <;> by_cases h2 : a ≤ 3 <;>
  · go_enter Try.func107, Try.ntmps107
    go_wp2
    go_ret
    exact ⟨by simp [*], rfl⟩
/-- the lowest two -/
def lp (a : Int) : BitVec 3 := low a &&& 3
theorem and3 (a : Int) : bits .and .i64 a 3 = up (lp a) := by rw [and_up _ _ (by omega) (by omega)]; rfl
theorem pjoin_any (a b : Int) (w : World) : Calls Try.prog 91 #[.int .i64 a, .int .i64 b] w fun e w' => e = .returned (.int .i64 (up (lp a ||| lp b))) ∧ w' = w := by
  go_enter Try.func91, Try.ntmps91
  go_wp2
  go_ret
  exact ⟨ret_int (by rw [and3, lp, low_or, show ∀ x y : BitVec 3, (x ||| y) &&& 3 = (x &&& 3) ||| (y &&& 3) by decide]; rfl), rfl⟩
theorem pwithin_any (a b : Int) (w : World) : Calls Try.prog 98 #[.int .i64 a, .int .i64 b] w fun e w' => e = .returned (.bool (withinS (lp a) (lp b))) ∧ w' = w := by
  go_enter Try.func98, Try.ntmps98
  go_wp2
  go_ret
  exact ⟨ret_bool (by rw [and3, lp, low_andNot, show ∀ x y : BitVec 3, (x &&& ~~~ y) &&& 3 = (x &&& 3) &&& ~~~ (y &&& 3) by decide]; exact up_beq _ 0), rfl⟩
end Go.Proofs.Ytmhicllhjiglkaa
namespace Go.Proofs.Ytmhicllhjiglkaa
open Go.RowKit
/-- a Span that is Right, of int64s -/
def Sp (s : Int × Int) : Prop := -9223372036854775808 ≤ s.1 ∧ s.1 ≤ s.2 ∧ s.2 ≤ 9223372036854775807
/-- new blocks alone -/
def New1 (w w' : World) : Prop := ∃ o, w' = w.alloc o
def New2 (w w' : World) : Prop := ∃ o p, w' = (w.alloc o).alloc p
def New3 (w w' : World) : Prop := ∃ o p q, w' = ((w.alloc o).alloc p).alloc q
def New4 (w w' : World) : Prop := ∃ o p q r, w' = (((w.alloc o).alloc p).alloc q).alloc r
def New5 (w w' : World) : Prop := ∃ o p q r s, w' = ((((w.alloc o).alloc p).alloc q).alloc r).alloc s
end Go.Proofs.Ytmhicllhjiglkaa
namespace Go.Proofs.Ytmhicllhjiglkaa
open Go.RowKit
/-- what both may be -/
def meetOk (ai : Bool) (an : Int) (bi : Bool) (bn : Int) : Bool := !(ai && bi && (an != bn))
def meetI (ai : Bool) (an : Int) (bi : Bool) (bn : Int) : Bool := (ai && (!bi || (an == bn))) || (!ai && bi)
def meetN (ai : Bool) (an : Int) (bi : Bool) (bn : Int) : Int := if ai = true then (if bi = true ∧ an ≠ bn then 0 else an) else if bi = true then bn else 0
def joinI (ai : Bool) (an : Int) (bi : Bool) (bn : Int) : Bool := ai && bi && (an == bn)
def joinN (ai : Bool) (an : Int) (bi : Bool) (bn : Int) : Int := if ai = true ∧ bi = true ∧ an = bn then an else 0
def withinK (ai : Bool) (an : Int) (bi : Bool) (bn : Int) : Bool := !bi || (ai && (an == bn))
def hasK (ai : Bool) (an n : Int) : Bool := !ai || (an == n)
def cleanN (ai : Bool) (an : Int) : Int := if ai = true then an else 0
def rightK (ai : Bool) (an : Int) : Bool := ai || (an == 0)
theorem kof_any (n : Int) (w : World) : Calls Try.prog 82 #[.int .i64 n] w fun e w' => e = .returned (.agg #[.bool true, .int .i64 n]) ∧ New1 w w' := by
  go_enter Try.func82, Try.ntmps82
  go_wp2
  exact bodyPost_ret (by simp [results, Try.results82, go_sem]; try rfl) rfl ⟨rfl, _, rfl⟩
theorem kany_any (w : World) : Calls Try.prog 79 #[] w fun e w' => e = .returned (.agg #[.bool false, .int .i64 0]) ∧ New1 w w' := by
  go_enter Try.func79, Try.ntmps79
  go_wp2
  exact bodyPost_ret (by simp [results, Try.results79, go_sem]; try rfl) rfl ⟨rfl, _, rfl⟩
theorem kright_any (ai : Bool) (an : Int) (w : World) : Calls Try.prog 105 #[.agg #[.bool ai, .int .i64 an]] w fun e w' => e = .returned (.bool (rightK ai an)) ∧ New1 w w' := by
  cases ai <;> by_cases h : an = 0 <;> (try subst h) <;>
  · go_enter Try.func105, Try.ntmps105
    go_wp2
    go_ret
    exact ⟨by simp [rightK, *], _, rfl⟩
theorem khas_any (ai : Bool) (an n : Int) (w : World) : Calls Try.prog 120 #[.agg #[.bool ai, .int .i64 an], .int .i64 n] w fun e w' => e = .returned (.bool (hasK ai an n)) ∧ New1 w w' := by
  cases ai <;> by_cases h : an = n <;> (try subst h) <;>
  · go_enter Try.func120, Try.ntmps120
    go_wp2
    go_ret
    exact ⟨by simp [hasK, *], _, rfl⟩
theorem khasr_any (ai : Bool) (an n : Int) (w : World) : Calls Try.prog 125 #[.agg #[.bool ai, .int .i64 an], .int .i64 n] w fun e w' => e = .returned (.bool (hasK ai an n)) ∧ New1 w w' := by
  cases ai <;> by_cases h : an = n <;> (try subst h) <;>
  · go_enter Try.func125, Try.ntmps125
    go_wp2
    go_ret
    exact ⟨by simp [hasK, *], _, rfl⟩
theorem kto_any (ai : Bool) (an : Int) (w : World) : Calls Try.prog 65 #[.agg #[.bool ai, .int .i64 an]] w fun e w' => e = .returned (.agg #[.bool ai, .int .i64 an]) ∧ New2 w w' := by
  go_enter Try.func65, Try.ntmps65
  go_wp2
  exact bodyPost_ret (by simp [results, Try.results65, go_sem]; try rfl) rfl ⟨rfl, _, _, rfl⟩
theorem kfrom_any (ai : Bool) (an : Int) (w : World) : Calls Try.prog 128 #[.agg #[.bool ai, .int .i64 an]] w fun e w' => e = .returned (.agg #[.bool ai, .int .i64 an]) ∧ New2 w w' := by
  go_enter Try.func128, Try.ntmps128
  go_wp2
  exact bodyPost_ret (by simp [results, Try.results128, go_sem]; try rfl) rfl ⟨rfl, _, _, rfl⟩
theorem krt_any (ai : Bool) (an : Int) (w : World) : Calls Try.prog 135 #[.agg #[.bool ai, .int .i64 an]] w fun e w' => e = .returned (.agg #[.bool ai, .int .i64 (cleanN ai an)]) ∧ Below w.heap.size w w' := by
  cases ai <;>
  · go_enter Try.func135, Try.ntmps135
    go_wp2_with (go_at_call 79; refine (kany_any _).mono ?_; rintro e w' ⟨rfl, o, rfl⟩)
    exact bodyPost_ret (by simp [results, Try.results135, go_sem]; try rfl) rfl ⟨by simp [cleanN], (by repeat (first | exact Below.refl _ _ | (refine Below.alloc ?_ (by simp; try omega) _) | (refine Below.setCell ?_ (by simp; try omega) _)))⟩
theorem kclean_any (ai : Bool) (an : Int) (w : World) : Calls Try.prog 63 #[.agg #[.bool ai, .int .i64 an]] w fun e w' => e = .returned (.agg #[.bool ai, .int .i64 (cleanN ai an)]) ∧ Below w.heap.size w w' := by
  cases ai <;>
  · go_enter Try.func63, Try.ntmps63
    go_wp2
    exact bodyPost_ret (by simp [results, Try.results63, go_sem]; try rfl) rfl ⟨by simp [cleanN], (by repeat (first | exact Below.refl _ _ | (refine Below.alloc ?_ (by simp; try omega) _) | (refine Below.setCell ?_ (by simp; try omega) _)))⟩
theorem bcell {W w1 : World} (hb : Below W.heap.size W w1) : (∀ b o, b < W.heap.size → w1.cell? ⟨b, o, none⟩ = W.cell? ⟨b, o, none⟩) ∧ (∀ b o, b < W.heap.size → w1.frozen? ⟨b, o, none⟩ = W.frozen? ⟨b, o, none⟩) :=
  ⟨fun b o h => hb.cell (p := ⟨b, o, none⟩) h, fun b o h => hb.frozen (p := ⟨b, o, none⟩) h⟩
set_option maxHeartbeats 2000000 in
theorem kmeet_any (ai : Bool) (an : Int) (bi : Bool) (bn : Int) (w : World) : Calls Try.prog 133 #[.agg #[.bool ai, .int .i64 an], .agg #[.bool bi, .int .i64 bn]] w fun e w' => e = .returned (.tuple #[.agg #[.bool (meetI ai an bi bn), .int .i64 (meetN ai an bi bn)], .bool (meetOk ai an bi bn)]) ∧ Below w.heap.size w w' := by
  have hA : ∀ x y, hasK false x y = true := fun _ _ => rfl
  have hB : ∀ x, hasK true x x = true := fun x => by simp [hasK]
  have hC : ¬ an = bn → hasK true bn an = false := fun h => by simp [hasK]; exact fun e => h e.symm
  cases ai <;> cases bi <;> by_cases h : an = bn <;> (try subst h) <;>
  · go_enter Try.func133, Try.ntmps133
    go_wp2_with (first | (go_at_call 135; refine (krt_any _ _ _).mono ?_; rintro e w' ⟨rfl, hb⟩; obtain ⟨hc, hf⟩ := bcell hb; have hz := hb.size; simp at hz) | (go_at_call 120; refine (khas_any _ _ _ _).mono ?_; rintro e w' ⟨rfl, o, rfl⟩) | (go_at_call 79; refine (kany_any _).mono ?_; rintro e w' ⟨rfl, o, rfl⟩))
    all_goals (exact bodyPost_ret (by simp [results, Try.results133, go_sem, *]; try rfl) rfl ⟨by simp [meetI, meetN, meetOk, cleanN, *], (by repeat (first | exact Below.refl _ _ | (refine Below.drew ?_) | (refine Below.setCell ?_ (by first | omega | (simp; done) | (simp; omega)) _) | (refine Below.alloc ?_ (by first | omega | (simp; done) | (simp; omega)) _) | (refine Below.trans ?_ (Below.mono (by assumption) (by first | omega | (simp; done) | (simp; omega))))))⟩)
set_option maxHeartbeats 2000000 in
theorem kjoin_any (ai : Bool) (an : Int) (bi : Bool) (bn : Int) (w : World) : Calls Try.prog 89 #[.agg #[.bool ai, .int .i64 an], .agg #[.bool bi, .int .i64 bn]] w fun e w' => e = .returned (.agg #[.bool (joinI ai an bi bn), .int .i64 (joinN ai an bi bn)]) ∧ Below w.heap.size w w' := by
  cases ai <;> cases bi <;> by_cases h : an = bn <;> (try subst h) <;>
  · go_enter Try.func89, Try.ntmps89
    go_wp2_with (first | (go_at_call 79; refine (kany_any _).mono ?_; rintro e w' ⟨rfl, o, rfl⟩))
    all_goals (exact bodyPost_ret (by simp [results, Try.results89, go_sem, *]; try rfl) rfl ⟨by simp [joinI, joinN, *], (by repeat (first | exact Below.refl _ _ | (refine Below.drew ?_) | (refine Below.setCell ?_ (by first | omega | (simp; done) | (simp; omega)) _) | (refine Below.alloc ?_ (by first | omega | (simp; done) | (simp; omega)) _) | (refine Below.trans ?_ (Below.mono (by assumption) (by first | omega | (simp; done) | (simp; omega))))))⟩)
set_option maxHeartbeats 2000000 in
theorem kjoinr_any (ai : Bool) (an : Int) (bi : Bool) (bn : Int) (w : World) : Calls Try.prog 130 #[.agg #[.bool ai, .int .i64 an], .agg #[.bool bi, .int .i64 bn]] w fun e w' => e = .returned (.agg #[.bool (joinI ai an bi bn), .int .i64 (joinN ai an bi bn)]) ∧ Below w.heap.size w w' := by
  cases ai <;> cases bi <;> by_cases h : an = bn <;> (try subst h) <;>
  · go_enter Try.func130, Try.ntmps130
    go_wp2
    all_goals (exact bodyPost_ret (by simp [results, Try.results130, go_sem, *]; try rfl) rfl ⟨by simp [joinI, joinN, *], (by repeat (first | exact Below.refl _ _ | (refine Below.drew ?_) | (refine Below.setCell ?_ (by first | omega | (simp; done) | (simp; omega)) _) | (refine Below.alloc ?_ (by first | omega | (simp; done) | (simp; omega)) _) | (refine Below.trans ?_ (Below.mono (by assumption) (by first | omega | (simp; done) | (simp; omega))))))⟩)
set_option maxHeartbeats 2000000 in
theorem kwithin_any (ai : Bool) (an : Int) (bi : Bool) (bn : Int) (w : World) : Calls Try.prog 96 #[.agg #[.bool ai, .int .i64 an], .agg #[.bool bi, .int .i64 bn]] w fun e w' => e = .returned (.bool (withinK ai an bi bn)) ∧ Below w.heap.size w w' := by
  cases ai <;> cases bi <;> by_cases h : an = bn <;> (try subst h) <;>
  · go_enter Try.func96, Try.ntmps96
    go_wp2
    all_goals (go_ret; exact ⟨by simp [withinK, *], (by repeat (first | exact Below.refl _ _ | (refine Below.drew ?_) | (refine Below.setCell ?_ (by first | omega | (simp; done) | (simp; omega)) _) | (refine Below.alloc ?_ (by first | omega | (simp; done) | (simp; omega)) _) | (refine Below.trans ?_ (Below.mono (by assumption) (by first | omega | (simp; done) | (simp; omega))))))⟩)
set_option maxHeartbeats 2000000 in
theorem kwithinr_any (ai : Bool) (an : Int) (bi : Bool) (bn : Int) (w : World) : Calls Try.prog 100 #[.agg #[.bool ai, .int .i64 an], .agg #[.bool bi, .int .i64 bn]] w fun e w' => e = .returned (.bool (withinK ai an bi bn)) ∧ Below w.heap.size w w' := by
  cases ai <;> cases bi <;> by_cases h : an = bn <;> (try subst h) <;>
  · go_enter Try.func100, Try.ntmps100
    go_wp2
    all_goals (go_ret; exact ⟨by simp [withinK, *], (by repeat (first | exact Below.refl _ _ | (refine Below.drew ?_) | (refine Below.setCell ?_ (by first | omega | (simp; done) | (simp; omega)) _) | (refine Below.alloc ?_ (by first | omega | (simp; done) | (simp; omega)) _) | (refine Below.trans ?_ (Below.mono (by assumption) (by first | omega | (simp; done) | (simp; omega))))))⟩)
end Go.Proofs.Ytmhicllhjiglkaa
namespace Go.Proofs.Ytmhicllhjiglkaa
open Go.RowKit
theorem nright_any (lo hi : Int) (w : World) : Calls Try.prog 106 #[.agg #[.int .i64 lo, .int .i64 hi]] w fun e w' => e = .returned (.bool (decide (lo ≤ hi))) ∧ New1 w w' := by
  go_enter Try.func106, Try.ntmps106
  go_wp2
  go_ret
  exact ⟨rfl, _, rfl⟩
theorem nto_any (lo hi : Int) (w : World) : Calls Try.prog 66 #[.agg #[.int .i64 lo, .int .i64 hi]] w fun e w' => e = .returned (.agg #[.int .i64 lo, .int .i64 hi]) ∧ New2 w w' := by
  go_enter Try.func66, Try.ntmps66
  go_wp2
  exact bodyPost_ret (by simp [results, Try.results66, go_sem]; try rfl) rfl ⟨rfl, _, _, rfl⟩
theorem nfrom_any (lo hi : Int) (w : World) : Calls Try.prog 129 #[.agg #[.int .i64 lo, .int .i64 hi]] w fun e w' => e = .returned (.agg #[.int .i64 lo, .int .i64 hi]) ∧ New2 w w' := by
  go_enter Try.func129, Try.ntmps129
  go_wp2
  exact bodyPost_ret (by simp [results, Try.results129, go_sem]; try rfl) rfl ⟨rfl, _, _, rfl⟩
theorem nof_any (n : Int) (w : World) : Calls Try.prog 83 #[.int .i64 n] w fun e w' => e = .returned (.agg #[.int .i64 n, .int .i64 n]) ∧ New1 w w' := by
  go_enter Try.func83, Try.ntmps83
  go_wp2
  exact bodyPost_ret (by simp [results, Try.results83, go_sem]; try rfl) rfl ⟨rfl, _, rfl⟩
theorem nany_any (w : World) : Calls Try.prog 80 #[] w fun e w' => e = .returned (.agg #[.int .i64 (-9223372036854775808), .int .i64 9223372036854775807]) ∧ New1 w w' := by
  go_enter Try.func80, Try.ntmps80
  go_wp2
  exact bodyPost_ret (by simp [results, Try.results80, go_sem]; try rfl) rfl ⟨rfl, _, rfl⟩
def hasR (lo hi n : Int) : Bool := decide (lo ≤ n) && decide (n ≤ hi)
theorem nhas_any (lo hi n : Int) (w : World) : Calls Try.prog 121 #[.agg #[.int .i64 lo, .int .i64 hi], .int .i64 n] w fun e w' => e = .returned (.bool (hasR lo hi n)) ∧ New1 w w' := by
  by_cases h : lo ≤ n <;> by_cases h2 : n ≤ hi <;>
  · go_enter Try.func121, Try.ntmps121
    go_wp2
    go_ret
    exact ⟨by simp [hasR, *], _, rfl⟩
theorem nfix_any (lo hi : Int) (w : World) : Calls Try.prog 64 #[.agg #[.int .i64 lo, .int .i64 hi]] w fun e w' => e = .returned (.agg #[.int .i64 (min lo hi), .int .i64 (max lo hi)]) ∧ New2 w w' := by
  by_cases h : hi < lo
  · go_enter Try.func64, Try.ntmps64
    go_wp2
    exact bodyPost_ret (by simp [results, Try.results64, go_sem]; try rfl) rfl ⟨by rw [Int.min_eq_right (by omega), Int.max_eq_left (by omega)], _, _, rfl⟩
  · go_enter Try.func64, Try.ntmps64
    go_wp2
    exact bodyPost_ret (by simp [results, Try.results64, go_sem]; try rfl) rfl ⟨by rw [Int.min_eq_left (by omega), Int.max_eq_right (by omega)], _, _, rfl⟩
theorem nhasr_any (lo hi n : Int) (w : World) : Calls Try.prog 126 #[.agg #[.int .i64 lo, .int .i64 hi], .int .i64 n] w fun e w' => e = .returned (.bool (hasR lo hi n)) ∧ New1 w w' := by
  by_cases h : lo ≤ n <;> by_cases h2 : n ≤ hi <;>
  · go_enter Try.func126, Try.ntmps126
    go_wp2
    go_ret
    exact ⟨by simp [hasR, *], _, rfl⟩
def withinR (al ah bl bh : Int) : Bool := decide (bl ≤ al) && decide (ah ≤ bh)
theorem nwithin_any (al ah bl bh : Int) (w : World) : Calls Try.prog 97 #[.agg #[.int .i64 al, .int .i64 ah], .agg #[.int .i64 bl, .int .i64 bh]] w fun e w' => e = .returned (.bool (withinR al ah bl bh)) ∧ New2 w w' := by
  by_cases h : bl ≤ al <;> by_cases h2 : ah ≤ bh <;>
  · go_enter Try.func97, Try.ntmps97
    go_wp2
    go_ret
    exact ⟨by simp [withinR, *], _, _, rfl⟩
theorem nwithinr_any (al ah bl bh : Int) (w : World) : Calls Try.prog 101 #[.agg #[.int .i64 al, .int .i64 ah], .agg #[.int .i64 bl, .int .i64 bh]] w fun e w' => e = .returned (.bool (withinR al ah bl bh)) ∧ New2 w w' := by
  by_cases h : bl ≤ al <;> by_cases h2 : ah ≤ bh <;>
  · go_enter Try.func101, Try.ntmps101
    go_wp2
    go_ret
    exact ⟨by simp [withinR, *], _, _, rfl⟩
theorem njoin_any (al ah bl bh : Int) (w : World) : Calls Try.prog 90 #[.agg #[.int .i64 al, .int .i64 ah], .agg #[.int .i64 bl, .int .i64 bh]] w fun e w' => e = .returned (.agg #[.int .i64 (min al bl), .int .i64 (max ah bh)]) ∧ New3 w w' := by
  by_cases h : al ≤ bl <;> by_cases h2 : ah ≤ bh <;>
  · go_enter Try.func90, Try.ntmps90
    go_wp2
    all_goals (exact bodyPost_ret (by simp [results, Try.results90, go_sem]; try rfl) rfl ⟨by simp only [Int.min_def, Int.max_def]; repeat' (first | rfl | split | (exfalso; omega) | (rw [show ah = bh by omega])), _, _, _, rfl⟩)
theorem njoinr_any (al ah bl bh : Int) (w : World) : Calls Try.prog 131 #[.agg #[.int .i64 al, .int .i64 ah], .agg #[.int .i64 bl, .int .i64 bh]] w fun e w' => e = .returned (.agg #[.int .i64 (min al bl), .int .i64 (max ah bh)]) ∧ New3 w w' := by
  by_cases h : al ≤ bl <;> by_cases h2 : ah ≤ bh <;>
  · go_enter Try.func131, Try.ntmps131
    go_wp2
    all_goals (exact bodyPost_ret (by simp [results, Try.results131, go_sem]; try rfl) rfl ⟨by simp only [Int.min_def, Int.max_def]; repeat' (first | rfl | split | (exfalso; omega) | (rw [show ah = bh by omega])), _, _, _, rfl⟩)
theorem nwiden_any (al ah bl bh : Int) (w : World) : Calls Try.prog 94 #[.agg #[.int .i64 al, .int .i64 ah], .agg #[.int .i64 bl, .int .i64 bh]] w fun e w' => e = .returned (.agg #[.int .i64 (if bl < al then -9223372036854775808 else al), .int .i64 (if ah < bh then 9223372036854775807 else ah)]) ∧ Below w.heap.size w w' := by
  by_cases h : bl < al <;> by_cases h2 : ah < bh <;>
  · go_enter Try.func94, Try.ntmps94
    go_wp2
    all_goals (exact bodyPost_ret (by simp [results, Try.results94, go_sem]; try rfl) rfl ⟨by first | rfl | simp [*], (by repeat (first | exact Below.refl _ _ | (refine Below.drew ?_) | (refine Below.setCell ?_ (by first | omega | (simp; done) | (simp; omega)) _) | (refine Below.alloc ?_ (by first | omega | (simp; done) | (simp; omega)) _) | (refine Below.trans ?_ (Below.mono (by assumption) (by first | omega | (simp; done) | (simp; omega))))))⟩)
theorem nwidenr_any (al ah bl bh : Int) (w : World) : Calls Try.prog 132 #[.agg #[.int .i64 al, .int .i64 ah], .agg #[.int .i64 bl, .int .i64 bh]] w fun e w' => e = .returned (.agg #[.int .i64 (if bl < al then -9223372036854775808 else al), .int .i64 (if ah < bh then 9223372036854775807 else ah)]) ∧ Below w.heap.size w w' := by
  by_cases h : bl < al <;> by_cases h2 : ah < bh <;>
  · go_enter Try.func132, Try.ntmps132
    go_wp2
    all_goals (exact bodyPost_ret (by simp [results, Try.results132, go_sem]; try rfl) rfl ⟨by first | rfl | simp [*], (by repeat (first | exact Below.refl _ _ | (refine Below.drew ?_) | (refine Below.setCell ?_ (by first | omega | (simp; done) | (simp; omega)) _) | (refine Below.alloc ?_ (by first | omega | (simp; done) | (simp; omega)) _) | (refine Below.trans ?_ (Below.mono (by assumption) (by first | omega | (simp; done) | (simp; omega))))))⟩)
theorem ret_sb {x y : Int} {b : Bool} {r : (Int × Int) × Bool} (h1 : r.1.1 = x) (h2 : r.1.2 = y) (h3 : r.2 = b) : Ending.returned (.tuple #[.agg #[.int .i64 x, .int .i64 y], .bool b]) = Ending.returned (.tuple #[.agg #[.int .i64 (r.1).1, .int .i64 (r.1).2], .bool r.2]) := by subst h1 h2 h3; rfl
theorem ret_s {x y : Int} {r : Int × Int} (h1 : r.1 = x) (h2 : r.2 = y) : Ending.returned (.agg #[.int .i64 x, .int .i64 y]) = Ending.returned (.agg #[.int .i64 r.1, .int .i64 r.2]) := by subst h1 h2; rfl
def meetP (a b : Int × Int) : (Int × Int) × Bool := if max a.1 b.1 ≤ min a.2 b.2 then ((max a.1 b.1, min a.2 b.2), true) else ((0, 0), false)
end Go.Proofs.Ytmhicllhjiglkaa
namespace Go.Proofs.Ytmhicllhjiglkaa
open Go.RowKit
/-- all that is told of a number -/
structure V where
  s : BitVec 3
  k : Bool
  n : Int
  lo : Int
  hi : Int
  p : BitVec 3
theorem V.ext' {a b : V} (h1 : a.s = b.s) (h2 : a.k = b.k) (h3 : a.n = b.n) (h4 : a.lo = b.lo) (h5 : a.hi = b.hi) (h6 : a.p = b.p) : a = b := by
  cases a; cases b; dsimp only at *; subst h1 h2 h3 h4 h5 h6; rfl
/-- Right -/
structure V.ok (v : V) : Prop where
  s : v.s ≠ 0
  p : v.p ≠ 0
  p3 : v.p &&& 3 = v.p
  n : v.k = false → v.n = 0
  sp : Sp (v.lo, v.hi)
  i : i64 v.n
/-- a parity's bits alone -/
def V.pa (v : V) : Prop := v.p &&& 3 = v.p
def zeroV : V := ⟨0, false, 0, 0, 0, 0⟩
def joinV (a b : V) : V := ⟨a.s ||| b.s, joinI a.k a.n b.k b.n, joinN a.k a.n b.k b.n, min a.lo b.lo, max a.hi b.hi, a.p ||| b.p⟩
def withinV (a b : V) : Bool := withinS a.s b.s && (withinK a.k a.n b.k b.n && (withinR a.lo a.hi b.lo b.hi && withinS a.p b.p))
def widenV (a b : V) : V := ⟨a.s ||| b.s, joinI a.k a.n b.k b.n, joinN a.k a.n b.k b.n, (if min a.lo b.lo < a.lo then -9223372036854775808 else a.lo), (if a.hi < max a.hi b.hi then 9223372036854775807 else a.hi), a.p ||| b.p⟩
def mok (a b : V) : Bool := (meetOk a.k a.n b.k b.n && decide (max a.lo b.lo ≤ min a.hi b.hi)) && ((a.s &&& b.s) != 0) && ((a.p &&& b.p) != 0)
def mraw (a b : V) : V := ⟨a.s &&& b.s, meetI a.k a.n b.k b.n, meetN a.k a.n b.k b.n, max a.lo b.lo, min a.hi b.hi, a.p &&& b.p⟩
def meetV (a b : V) : V × Bool := if mok a b = true then (mraw a b, true) else (zeroV, false)
def ofV (n : Int) : V := ⟨sg n, true, n, n, n, pr n⟩
def anyV : V := ⟨7, false, 0, -9223372036854775808, 9223372036854775807, 3⟩
def hasV (v : V) (n : Int) : Bool := hasS v.s n && (hasK v.k v.n n && (hasR v.lo v.hi n && hasP v.p n))
def fixV (s : Int) (k : Bool) (n lo hi p : Int) : V := ⟨if low s = 0 then 7 else low s, k, cleanN k n, min lo hi, max lo hi, if low p &&& 3 = 0 then 3 else low p &&& 3⟩
theorem fix_ok (s : Int) (k : Bool) (n lo hi p : Int) (hn : i64 n) (h1 : i64 lo) (h2 : i64 hi) : (fixV s k n lo hi p).ok := by
  unfold fixV
  generalize low s = x
  generalize low p = y
  refine ⟨?_, ?_, ?_, ?_, ?_, ?_⟩
  · show (if x = 0 then 7 else x) ≠ 0
    revert x; decide
  · show (if y &&& 3 = 0 then 3 else y &&& 3) ≠ 0
    revert y; decide
  · show (if y &&& 3 = 0 then 3 else y &&& 3) &&& 3 = (if y &&& 3 = 0 then 3 else y &&& 3)
    revert y; decide
  · intro h; dsimp only at h ⊢; subst h; rfl
  · unfold Sp; unfold i64 at h1 h2; dsimp only; omega
  · dsimp only; unfold cleanN; split
    · exact hn
    · unfold i64; omega
theorem joinK_comm (a : Bool) (n : Int) (b : Bool) (m : Int) : joinI a n b m = joinI b m a n ∧ joinN a n b m = joinN b m a n := by
  unfold joinI joinN
  by_cases h : n = m
  · subst h; cases a <;> cases b <;> simp
  · have h1 : (n == m) = false := by rw [beq_eq_false_iff_ne]; exact h
    have h2 : (m == n) = false := by rw [beq_eq_false_iff_ne]; exact fun t => h t.symm
    have h3 : ¬ m = n := fun t => h t.symm
    rw [h1, h2]
    cases a <;> cases b <;> simp [h, h3]
theorem join_comm (x y : V) : joinV x y = joinV y x := by
  have k := joinK_comm x.k x.n y.k y.n
  exact V.ext' (BitVec.or_comm _ _) k.1 k.2 (Int.min_comm _ _) (Int.max_comm _ _) (BitVec.or_comm _ _)
theorem joinK_assoc (a : Bool) (n : Int) (b : Bool) (m : Int) (c : Bool) (l : Int) : joinI (joinI a n b m) (joinN a n b m) c l = joinI a n (joinI b m c l) (joinN b m c l) ∧ joinN (joinI a n b m) (joinN a n b m) c l = joinN a n (joinI b m c l) (joinN b m c l) := by
  unfold joinI joinN
  by_cases h : n = m
  · subst h
    by_cases h2 : n = l
    · subst h2; cases a <;> cases b <;> cases c <;> simp
    · have e : (n == l) = false := by rw [beq_eq_false_iff_ne]; exact h2
      cases a <;> cases b <;> cases c <;> simp [h2]
  · have e : (n == m) = false := by rw [beq_eq_false_iff_ne]; exact h
    by_cases h2 : m = l
    · subst h2
      cases a <;> cases b <;> cases c <;> simp [h]
    · have e2 : (m == l) = false := by rw [beq_eq_false_iff_ne]; exact h2
      cases a <;> cases b <;> cases c <;> simp [h, h2, e, e2]
theorem join_assoc (x y z : V) : joinV (joinV x y) z = joinV x (joinV y z) := by
  have k := joinK_assoc x.k x.n y.k y.n z.k z.n
  exact V.ext' (BitVec.or_assoc _ _ _) k.1 k.2 (Int.min_assoc _ _ _) (Int.max_assoc _ _ _) (BitVec.or_assoc _ _ _)
theorem join_idem (x : V) (h : x.ok) : joinV x x = x := by
  refine V.ext' (BitVec.or_self) ?_ ?_ (Int.min_self _) (Int.max_self _) (BitVec.or_self)
  · unfold joinV joinI; cases x.k <;> simp
  · have := h.n
    unfold joinV joinN
    cases hk : x.k <;> simp_all
theorem ws_or (x y : BitVec 3) : withinS x (x ||| y) = true ∧ withinS y (x ||| y) = true := by revert x y; decide
theorem wk_join (a : Bool) (n : Int) (b : Bool) (m : Int) : withinK a n (joinI a n b m) (joinN a n b m) = true ∧ withinK b m (joinI a n b m) (joinN a n b m) = true := by
  unfold withinK joinI joinN
  cases a <;> cases b <;> by_cases h : n = m <;> simp [h]
theorem ws_lub (x y z : BitVec 3) : withinS x z = true → withinS y z = true → withinS (x ||| y) z = true := by revert x y z; decide
theorem wk_lub (a : Bool) (n : Int) (b : Bool) (m : Int) (c : Bool) (l : Int) (h1 : withinK a n c l = true) (h2 : withinK b m c l = true) : withinK (joinI a n b m) (joinN a n b m) c l = true := by
  unfold withinK joinI joinN at *
  cases a <;> cases b <;> cases c <;> simp_all
theorem withinV_iff (x y : V) : withinV x y = true ↔ withinS x.s y.s = true ∧ withinK x.k x.n y.k y.n = true ∧ (y.lo ≤ x.lo ∧ x.hi ≤ y.hi) ∧ withinS x.p y.p = true := by
  unfold withinV withinR
  simp only [Bool.and_eq_true, decide_eq_true_iff]
theorem join_in (x y : V) : withinV x (joinV x y) = true ∧ withinV y (joinV x y) = true := by
  have a := ws_or x.s y.s
  have b := wk_join x.k x.n y.k y.n
  have c := ws_or x.p y.p
  rw [withinV_iff, withinV_iff]
  refine ⟨⟨a.1, b.1, ?_, c.1⟩, ⟨a.2, b.2, ?_, c.2⟩⟩ <;> (dsimp only [joinV]; omega)
theorem join_lub (x y z : V) (h1 : withinV x z = true) (h2 : withinV y z = true) : withinV (joinV x y) z = true := by
  rw [withinV_iff] at *
  refine ⟨ws_lub _ _ _ h1.1 h2.1, wk_lub _ _ _ _ _ _ h1.2.1 h2.2.1, ?_, ws_lub _ _ _ h1.2.2.2 h2.2.2.2⟩
  dsimp only [joinV]
  omega
theorem mok_iff (a b : V) : mok a b = true ↔ (meetOk a.k a.n b.k b.n = true ∧ max a.lo b.lo ≤ min a.hi b.hi) ∧ (a.s &&& b.s ≠ 0) ∧ (a.p &&& b.p ≠ 0) := by
  unfold mok
  simp only [Bool.and_eq_true, decide_eq_true_eq, bne_iff_ne, ne_eq]
  constructor
  · rintro ⟨⟨h, h1⟩, h2⟩; exact ⟨h, h1, h2⟩
  · rintro ⟨h, h1, h2⟩; exact ⟨⟨h, h1⟩, h2⟩
theorem meetK_comm (a : Bool) (n : Int) (b : Bool) (m : Int) : meetOk a n b m = meetOk b m a n ∧ (meetOk a n b m = true → meetI a n b m = meetI b m a n ∧ meetN a n b m = meetN b m a n) := by
  unfold meetOk meetI meetN
  by_cases h : n = m
  · subst h; cases a <;> cases b <;> simp
  · have h1 : (n == m) = false := by rw [beq_eq_false_iff_ne]; exact h
    have h2 : (m == n) = false := by rw [beq_eq_false_iff_ne]; exact fun t => h t.symm
    unfold bne
    rw [h1, h2]
    cases a <;> cases b <;> simp
theorem meet_comm (x y : V) : meetV x y = meetV y x := by
  have k := meetK_comm x.k x.n y.k y.n
  have e : mok x y = mok y x := by
    unfold mok
    rw [k.1, Int.max_comm, Int.min_comm, BitVec.and_comm, BitVec.and_comm x.p]
  unfold meetV
  rw [← e]
  by_cases h : mok x y = true
  · rw [if_pos h, if_pos h]
    rw [mok_iff] at h
    have k2 := k.2 h.1.1
    rw [show mraw x y = mraw y x from V.ext' (BitVec.and_comm _ _) k2.1 k2.2 (Int.max_comm _ _) (Int.min_comm _ _) (BitVec.and_comm _ _)]
  · rw [if_neg h, if_neg h]
theorem ws_and (x y : BitVec 3) : withinS (x &&& y) x = true ∧ withinS (x &&& y) y = true := by revert x y; decide
theorem wk_meet (a : Bool) (n : Int) (b : Bool) (m : Int) (h : meetOk a n b m = true) : withinK (meetI a n b m) (meetN a n b m) a n = true ∧ withinK (meetI a n b m) (meetN a n b m) b m = true := by
  unfold withinK meetI meetN meetOk at *
  cases a <;> cases b <;> by_cases h : n = m <;> simp_all
theorem meetV_ok {x y : V} (h : (meetV x y).2 = true) : mok x y = true ∧ (meetV x y).1 = mraw x y := by
  unfold meetV at *
  by_cases h1 : mok x y = true
  · rw [if_pos h1]; exact ⟨h1, rfl⟩
  · rw [if_neg h1] at h; cases h
theorem meetV_no {x y : V} (h : (meetV x y).2 = false) : mok x y = false ∧ (meetV x y).1 = zeroV := by
  unfold meetV at *
  by_cases h1 : mok x y = true
  · rw [if_pos h1] at h; cases h
  · rw [if_neg h1]; exact ⟨by simpa using h1, rfl⟩
theorem meetV_2 (x y : V) : (meetV x y).2 = mok x y := by
  cases h : (meetV x y).2
  · exact (meetV_no h).1.symm
  · exact (meetV_ok h).1.symm
theorem meet_in (x y : V) (h : (meetV x y).2 = true) : withinV (meetV x y).1 x = true ∧ withinV (meetV x y).1 y = true := by
  obtain ⟨h1, h2⟩ := meetV_ok h
  rw [mok_iff] at h1
  rw [h2, withinV_iff, withinV_iff]
  have a := ws_and x.s y.s
  have b := wk_meet _ _ _ _ h1.1.1
  have c := ws_and x.p y.p
  refine ⟨⟨a.1, b.1, ?_, c.1⟩, ⟨a.2, b.2, ?_, c.2⟩⟩ <;> (dsimp only [mraw]; omega)
theorem ws_glb (x y z : BitVec 3) : z ≠ 0 → withinS z x = true → withinS z y = true → x &&& y ≠ 0 ∧ withinS z (x &&& y) = true := by revert x y z; decide
theorem wk_glb (a : Bool) (n : Int) (b : Bool) (m : Int) (c : Bool) (l : Int) (h1 : withinK c l a n = true) (h2 : withinK c l b m = true) : meetOk a n b m = true ∧ withinK c l (meetI a n b m) (meetN a n b m) = true := by
  unfold withinK meetI meetN meetOk at *
  cases a <;> cases b <;> cases c <;> simp_all
theorem meet_glb (x y z : V) (hz : z.ok) (h1 : withinV z x = true) (h2 : withinV z y = true) : (meetV x y).2 = true ∧ withinV z (meetV x y).1 = true := by
  rw [withinV_iff] at h1 h2
  have a := ws_glb _ _ _ hz.s h1.1 h2.1
  have b := wk_glb _ _ _ _ _ _ h1.2.1 h2.2.1
  have c := ws_glb _ _ _ hz.p h1.2.2.2 h2.2.2.2
  have s := hz.sp
  unfold Sp at s
  dsimp only at s
  have k : mok x y = true := by
    rw [mok_iff]
    exact ⟨⟨b.1, by omega⟩, a.1, c.1⟩
  have e : (meetV x y).2 = true := by rw [meetV_2]; exact k
  refine ⟨e, ?_⟩
  rw [(meetV_ok e).2, withinV_iff]
  refine ⟨a.2, b.2, ?_, c.2⟩
  dsimp only [mraw]
  omega
theorem meetK_assoc (a : Bool) (n : Int) (b : Bool) (m : Int) (c : Bool) (l : Int) : ((meetOk a n b m = true ∧ meetOk (meetI a n b m) (meetN a n b m) c l = true) ↔ (meetOk b m c l = true ∧ meetOk a n (meetI b m c l) (meetN b m c l) = true)) ∧ ((meetOk a n b m = true ∧ meetOk (meetI a n b m) (meetN a n b m) c l = true) → meetI (meetI a n b m) (meetN a n b m) c l = meetI a n (meetI b m c l) (meetN b m c l) ∧ meetN (meetI a n b m) (meetN a n b m) c l = meetN a n (meetI b m c l) (meetN b m c l)) := by
  unfold meetOk meetI meetN
  cases a <;> cases b <;> cases c <;> by_cases h : n = m <;> by_cases h2 : m = l <;> by_cases h3 : n = l <;> simp_all [bne]
theorem mok_assoc (x y z : V) (hx : x.ok) (hy : y.ok) (hz : z.ok) : (mok x y = true ∧ mok (mraw x y) z = true ↔ mok y z = true ∧ mok x (mraw y z) = true) ∧ (mok x y = true ∧ mok (mraw x y) z = true → mraw (mraw x y) z = mraw x (mraw y z)) := by
  have k := meetK_assoc x.k x.n y.k y.n z.k z.n
  have s1 := hx.sp
  have s2 := hy.sp
  have s3 := hz.sp
  unfold Sp at s1 s2 s3
  dsimp only at s1 s2 s3
  simp only [mok_iff]
  have bs : ∀ a b c : BitVec 3, (a &&& b ≠ 0 ∧ (a &&& b) &&& c ≠ 0) ↔ (b &&& c ≠ 0 ∧ a &&& (b &&& c) ≠ 0) := by decide
  have e1 := bs x.s y.s z.s
  have e2 := bs x.p y.p z.p
  dsimp only [mraw]
  constructor
  · constructor
    · rintro ⟨⟨⟨p1, p2⟩, p3, p4⟩, ⟨q1, q2⟩, q3, q4⟩
      have kk := k.1.1 ⟨p1, q1⟩
      have a1 := e1.1 ⟨p3, q3⟩
      have a2 := e2.1 ⟨p4, q4⟩
      exact ⟨⟨⟨kk.1, by omega⟩, a1.1, a2.1⟩, ⟨kk.2, by omega⟩, a1.2, a2.2⟩
    · rintro ⟨⟨⟨p1, p2⟩, p3, p4⟩, ⟨q1, q2⟩, q3, q4⟩
      have kk := k.1.2 ⟨p1, q1⟩
      have a1 := e1.2 ⟨p3, q3⟩
      have a2 := e2.2 ⟨p4, q4⟩
      exact ⟨⟨⟨kk.1, by omega⟩, a1.1, a2.1⟩, ⟨kk.2, by omega⟩, a1.2, a2.2⟩
  · rintro ⟨⟨⟨p1, p2⟩, p3, p4⟩, ⟨q1, q2⟩, q3, q4⟩
    have kk := k.2 ⟨p1, q1⟩
    exact V.ext' (BitVec.and_assoc _ _ _) kk.1 kk.2 (Int.max_assoc _ _ _) (Int.min_assoc _ _ _) (BitVec.and_assoc _ _ _)
/-- of three, in either order -/
theorem meet_three (x y z : V) (hx : x.ok) (hy : y.ok) (hz : z.ok) : ((meetV x y).2 && (meetV (meetV x y).1 z).2) = ((meetV y z).2 && (meetV x (meetV y z).1).2) ∧ (((meetV x y).2 && (meetV (meetV x y).1 z).2) = true → (meetV (meetV x y).1 z).1 = (meetV x (meetV y z).1).1) := by
  have k := mok_assoc x y z hx hy hz
  have L : ((meetV x y).2 && (meetV (meetV x y).1 z).2) = true ↔ mok x y = true ∧ mok (mraw x y) z = true := by
    rw [Bool.and_eq_true]
    constructor
    · rintro ⟨a, b⟩; rw [(meetV_ok a).2] at b; exact ⟨(meetV_ok a).1, (meetV_ok b).1⟩
    · rintro ⟨a, b⟩
      have a' : (meetV x y).2 = true := by rw [meetV_2]; exact a
      refine ⟨a', ?_⟩
      rw [(meetV_ok a').2, meetV_2]
      exact b
  have R : ((meetV y z).2 && (meetV x (meetV y z).1).2) = true ↔ mok y z = true ∧ mok x (mraw y z) = true := by
    rw [Bool.and_eq_true]
    constructor
    · rintro ⟨a, b⟩; rw [(meetV_ok a).2] at b; exact ⟨(meetV_ok a).1, (meetV_ok b).1⟩
    · rintro ⟨a, b⟩
      have a' : (meetV y z).2 = true := by rw [meetV_2]; exact a
      refine ⟨a', ?_⟩
      rw [(meetV_ok a').2, meetV_2]
      exact b
  refine ⟨?_, ?_⟩
  · rw [Bool.eq_iff_iff, L, R]; exact k.1
  · intro h
    have h1 := L.1 h
    have h2 := k.1.1 h1
    have a1 : (meetV x y).2 = true := by rw [meetV_2]; exact h1.1
    have a2 : (meetV y z).2 = true := by rw [meetV_2]; exact h2.1
    rw [(meetV_ok a1).2, (meetV_ok a2).2]
    have b1 : (meetV (mraw x y) z).2 = true := by rw [meetV_2]; exact h1.2
    have b2 : (meetV x (mraw y z)).2 = true := by rw [meetV_2]; exact h2.2
    rw [(meetV_ok b1).2, (meetV_ok b2).2]
    exact k.2 h1
def pc3 (x : BitVec 3) : Nat := (if x.getLsbD 0 then 0 else 1) + (if x.getLsbD 1 then 0 else 1) + (if x.getLsbD 2 then 0 else 1)
def pc2 (x : BitVec 3) : Nat := (if x.getLsbD 0 then 0 else 1) + (if x.getLsbD 1 then 0 else 1)
def kx (b : Bool) : Nat := if b then 1 else 0
def lx (i : Int) : Nat := if i = -9223372036854775808 then 0 else 1
def gx (i : Int) : Nat := if i = 9223372036854775807 then 0 else 1
def low2 (u v : Int) : Int := if min u v < u then -9223372036854775808 else u
def hig2 (u v : Int) : Int := if u < max u v then 9223372036854775807 else u
/-- how often it may change -/
def pot (v : V) : Nat := pc3 v.s + kx v.k + lx v.lo + gx v.hi + pc2 v.p
theorem pc3_le (x : BitVec 3) : x ≠ 0 → pc3 x ≤ 2 := by revert x; decide
theorem pc2_le (x : BitVec 3) : x ≠ 0 → x &&& 3 = x → pc2 x ≤ 1 := by revert x; decide
theorem pot_le (v : V) (h : v.ok) : pot v ≤ 6 := by
  have a := pc3_le _ h.s
  have b := pc2_le _ h.p h.p3
  unfold pot kx lx gx
  split <;> split <;> split <;> omega
theorem pc3_or (x y : BitVec 3) : pc3 (x ||| y) ≤ pc3 x ∧ (x ||| y ≠ x → pc3 (x ||| y) + 1 ≤ pc3 x) := by revert x y; decide
theorem pc2_or (x y : BitVec 3) : x &&& 3 = x → y &&& 3 = y → pc2 (x ||| y) ≤ pc2 x ∧ (x ||| y ≠ x → pc2 (x ||| y) + 1 ≤ pc2 x) := by revert x y; decide
theorem widen_ok (x c : V) (hx : x.ok) (hc : c.ok) : (widenV x c).ok := by
  have b1 : ∀ a b : BitVec 3, a ≠ 0 → a ||| b ≠ 0 := by decide
  have b2 : ∀ a b : BitVec 3, a &&& 3 = a → b &&& 3 = b → (a ||| b) &&& 3 = a ||| b := by decide
  have s := hx.sp
  have t := hc.sp
  unfold Sp at s t
  dsimp only at s t
  refine ⟨b1 _ _ hx.s, b1 _ _ hx.p, b2 _ _ hx.p3 hc.p3, ?_, ?_, ?_⟩
  · dsimp only [widenV]
    unfold joinI joinN
    intro h
    rw [if_neg]
    rintro ⟨h1, h2, h3⟩
    simp [h1, h2, h3] at h
  · unfold Sp
    dsimp only [widenV]
    split <;> split <;> omega
  · dsimp only [widenV]
    unfold joinN
    split
    · exact hx.i
    · unfold i64; omega
theorem widen_in (x c : V) (hx : x.ok) (hc : c.ok) : withinV x (widenV x c) = true ∧ withinV c (widenV x c) = true := by
  have a := ws_or x.s c.s
  have b := wk_join x.k x.n c.k c.n
  have d := ws_or x.p c.p
  have s := hx.sp
  have t := hc.sp
  unfold Sp at s t
  dsimp only at s t
  rw [withinV_iff, withinV_iff]
  refine ⟨⟨a.1, b.1, ?_, d.1⟩, ⟨a.2, b.2, ?_, d.2⟩⟩ <;> (dsimp only [widenV]; split <;> split <;> omega)
theorem joinK_mono (a : Bool) (n : Int) (b : Bool) (m : Int) (h : a = false → n = 0) : kx (joinI a n b m) ≤ kx a ∧ (¬ (joinI a n b m = a ∧ joinN a n b m = n) → kx (joinI a n b m) + 1 ≤ kx a) := by
  unfold joinI joinN kx
  cases a <;> cases b <;> by_cases h2 : n = m <;> simp_all
theorem widen_pot (x c : V) (hx : x.ok) (hc : c.ok) : widenV x c ≠ x → pot (widenV x c) + 1 ≤ pot x := by
  intro h
  have a := pc3_or x.s c.s
  have b := joinK_mono x.k x.n c.k c.n hx.n
  have d := pc2_or x.p c.p hx.p3 hc.p3
  have s := hx.sp
  have t := hc.sp
  unfold Sp at s t
  dsimp only at s t
  have l : ∀ u v : Int, -9223372036854775808 ≤ v → lx (low2 u v) ≤ lx u ∧ (low2 u v ≠ u → lx (low2 u v) + 1 ≤ lx u) := by
    intro u v hv
    unfold low2
    by_cases h1 : min u v < u
    · rw [if_pos h1]; unfold lx; rw [if_pos rfl, if_neg (by omega)]; omega
    · rw [if_neg h1]; exact ⟨Nat.le_refl _, fun t => absurd rfl t⟩
  have g : ∀ u v : Int, v ≤ 9223372036854775807 → gx (hig2 u v) ≤ gx u ∧ (hig2 u v ≠ u → gx (hig2 u v) + 1 ≤ gx u) := by
    intro u v hv
    unfold hig2
    by_cases h1 : u < max u v
    · rw [if_pos h1]; unfold gx; rw [if_pos rfl, if_neg (by omega)]; omega
    · rw [if_neg h1]; exact ⟨Nat.le_refl _, fun t => absurd rfl t⟩
  have l := l x.lo c.lo (by omega)
  have g := g x.hi c.hi (by omega)
  have e : pot (widenV x c) = pc3 (x.s ||| c.s) + kx (joinI x.k x.n c.k c.n) + lx (low2 x.lo c.lo) + gx (hig2 x.hi c.hi) + pc2 (x.p ||| c.p) := rfl
  rw [e]
  unfold pot
  by_cases h1 : x.s ||| c.s = x.s
  · by_cases h2 : joinI x.k x.n c.k c.n = x.k ∧ joinN x.k x.n c.k c.n = x.n
    · by_cases h3 : low2 x.lo c.lo = x.lo
      · by_cases h4 : hig2 x.hi c.hi = x.hi
        · by_cases h5 : x.p ||| c.p = x.p
          · exact absurd (V.ext' h1 h2.1 h2.2 h3 h4 h5) h
          · have := d.2 h5; omega
        · have := g.2 h4; omega
      · have := l.2 h3; omega
    · have := b.2 h2; omega
  · have := a.2 h1; omega
end Go.Proofs.Ytmhicllhjiglkaa
namespace Go.Proofs.Ytmhicllhjiglkaa
open Go.RowKit
set_option maxHeartbeats 4000000 in
theorem nmeet_any (a b : Int × Int) (w : World) : Calls Try.prog 136 #[.agg #[.int .i64 a.1, .int .i64 a.2], .agg #[.int .i64 b.1, .int .i64 b.2]] w fun e w' => e = .returned (.tuple #[.agg #[.int .i64 ((meetP a b).1).1, .int .i64 ((meetP a b).1).2], .bool (meetP a b).2]) ∧ New5 w w' := by
  by_cases h1 : a.1 < b.1
  · by_cases h2 : b.2 < a.2
    · by_cases h3 : b.1 ≤ b.2 <;>
      · go_enter Try.func136, Try.ntmps136
        go_wp2
        all_goals (refine bodyPost_ret (by simp [results, Try.results136, go_sem]; try rfl) rfl ⟨?_, _, _, _, _, _, rfl⟩; exact ret_sb (by unfold meetP; repeat' (first | rfl | omega | (dsimp only; omega) | split | (exfalso; omega))) (by unfold meetP; repeat' (first | rfl | omega | (dsimp only; omega) | split | (exfalso; omega))) (by unfold meetP; repeat' (first | rfl | omega | (dsimp only; omega) | split | (exfalso; omega))))
    · by_cases h3 : b.1 ≤ a.2 <;>
      · go_enter Try.func136, Try.ntmps136
        go_wp2
        all_goals (refine bodyPost_ret (by simp [results, Try.results136, go_sem]; try rfl) rfl ⟨?_, _, _, _, _, _, rfl⟩; exact ret_sb (by unfold meetP; repeat' (first | rfl | omega | (dsimp only; omega) | split | (exfalso; omega))) (by unfold meetP; repeat' (first | rfl | omega | (dsimp only; omega) | split | (exfalso; omega))) (by unfold meetP; repeat' (first | rfl | omega | (dsimp only; omega) | split | (exfalso; omega))))
  · by_cases h2 : b.2 < a.2
    · by_cases h3 : a.1 ≤ b.2 <;>
      · go_enter Try.func136, Try.ntmps136
        go_wp2
        all_goals (refine bodyPost_ret (by simp [results, Try.results136, go_sem]; try rfl) rfl ⟨?_, _, _, _, _, _, rfl⟩; exact ret_sb (by unfold meetP; repeat' (first | rfl | omega | (dsimp only; omega) | split | (exfalso; omega))) (by unfold meetP; repeat' (first | rfl | omega | (dsimp only; omega) | split | (exfalso; omega))) (by unfold meetP; repeat' (first | rfl | omega | (dsimp only; omega) | split | (exfalso; omega))))
    · by_cases h3 : a.1 ≤ a.2 <;>
      · go_enter Try.func136, Try.ntmps136
        go_wp2
        all_goals (refine bodyPost_ret (by simp [results, Try.results136, go_sem]; try rfl) rfl ⟨?_, _, _, _, _, _, rfl⟩; exact ret_sb (by unfold meetP; repeat' (first | rfl | omega | (dsimp only; omega) | split | (exfalso; omega))) (by unfold meetP; repeat' (first | rfl | omega | (dsimp only; omega) | split | (exfalso; omega))) (by unfold meetP; repeat' (first | rfl | omega | (dsimp only; omega) | split | (exfalso; omega))))
end Go.Proofs.Ytmhicllhjiglkaa
namespace Go.Proofs.Ytmhicllhjiglkaa
open Go.RowKit
theorem hide {p : Prop} (h : p) : Hid p := h
/-- a Value's six cells at a block -/
structure Br (w : World) (q : Nat) (s : Int) (k : Bool) (n lo hi p : Int) : Prop where
  c0 : w.cell? ⟨q, 0, none⟩ = some (.int .i64 s)
  c1 : w.cell? ⟨q, 1, none⟩ = some (.bool k)
  c2 : w.cell? ⟨q, 2, none⟩ = some (.int .i64 n)
  c3 : w.cell? ⟨q, 3, none⟩ = some (.int .i64 lo)
  c4 : w.cell? ⟨q, 4, none⟩ = some (.int .i64 hi)
  c5 : w.cell? ⟨q, 5, none⟩ = some (.int .i64 p)
/-- they may be written -/
structure Fz (w : World) (q : Nat) : Prop where
  f0 : w.frozen? ⟨q, 0, none⟩ = false
  f1 : w.frozen? ⟨q, 1, none⟩ = false
  f2 : w.frozen? ⟨q, 2, none⟩ = false
  f3 : w.frozen? ⟨q, 3, none⟩ = false
  f4 : w.frozen? ⟨q, 4, none⟩ = false
  f5 : w.frozen? ⟨q, 5, none⟩ = false
theorem Br.lt {w : World} {q : Nat} {s : Int} {k : Bool} {n lo hi p : Int} (h : Br w q s k n lo hi p) : q < w.heap.size := World.block_lt_of_cell? w _ h.c0
theorem Br.keep {w w' : World} {q : Nat} {s : Int} {k : Bool} {n lo hi p : Int} (h : Br w q s k n lo hi p) (hb : Below w.heap.size w w') : Br w' q s k n lo hi p :=
  ⟨((bcell hb).1 q 0 h.lt).trans h.c0, ((bcell hb).1 q 1 h.lt).trans h.c1, ((bcell hb).1 q 2 h.lt).trans h.c2, ((bcell hb).1 q 3 h.lt).trans h.c3, ((bcell hb).1 q 4 h.lt).trans h.c4, ((bcell hb).1 q 5 h.lt).trans h.c5⟩
theorem Fz.keep {w w' : World} {q : Nat} (h : Fz w q) (hq : q < w.heap.size) (hb : Below w.heap.size w w') : Fz w' q :=
  ⟨((bcell hb).2 q 0 hq).trans h.f0, ((bcell hb).2 q 1 hq).trans h.f1, ((bcell hb).2 q 2 hq).trans h.f2, ((bcell hb).2 q 3 hq).trans h.f3, ((bcell hb).2 q 4 hq).trans h.f4, ((bcell hb).2 q 5 hq).trans h.f5⟩
theorem Br.new (w : World) (s : Int) (k : Bool) (n lo hi p : Int) (t : TypeId) : Br (w.alloc (.cells #[.int .i64 s, .bool k, .int .i64 n, .int .i64 lo, .int .i64 hi, .int .i64 p] t)) w.heap.size s k n lo hi p := ⟨by simp, by simp, by simp, by simp, by simp, by simp⟩
theorem Fz.new (w : World) (s : Int) (k : Bool) (n lo hi p : Int) (t : TypeId) : Fz (w.alloc (.cells #[.int .i64 s, .bool k, .int .i64 n, .int .i64 lo, .int .i64 hi, .int .i64 p] t)) w.heap.size := ⟨by simp [go_sem], by simp [go_sem], by simp [go_sem], by simp [go_sem], by simp [go_sem], by simp [go_sem]⟩
/-- a Value is written -/
abbrev st6 (w : World) (q : Nat) (a b c d e f : Value) : World := (((((w.setCell ⟨q, 0, none⟩ a).setCell ⟨q, 1, none⟩ b).setCell ⟨q, 2, none⟩ c).setCell ⟨q, 3, none⟩ d).setCell ⟨q, 4, none⟩ e).setCell ⟨q, 5, none⟩ f
theorem st6_cell (w : World) (q r o : Nat) (a b c d e f : Value) (h : r ≠ q) : (st6 w q a b c d e f).cell? ⟨r, o, none⟩ = w.cell? ⟨r, o, none⟩ := by
  have ne : ∀ j : Nat, (⟨q, j, none⟩ : Addr) ≠ ⟨r, o, none⟩ := fun j t => h (congrArg Addr.block t).symm
  unfold st6
  rw [World.cell?_setCell_other _ _ _ _ (ne 5), World.cell?_setCell_other _ _ _ _ (ne 4), World.cell?_setCell_other _ _ _ _ (ne 3), World.cell?_setCell_other _ _ _ _ (ne 2), World.cell?_setCell_other _ _ _ _ (ne 1), World.cell?_setCell_other _ _ _ _ (ne 0)]
theorem st6_frozen (w : World) (q r o : Nat) (a b c d e f : Value) : (st6 w q a b c d e f).frozen? ⟨r, o, none⟩ = w.frozen? ⟨r, o, none⟩ := by
  unfold st6
  simp
theorem Br.put {w : World} {q r : Nat} {s : Int} {k : Bool} {n lo hi p : Int} (h : Br w r s k n lo hi p) (hq : r ≠ q) (a b c d e f : Value) : Br (st6 w q a b c d e f) r s k n lo hi p :=
  ⟨(st6_cell w q r 0 a b c d e f hq).trans h.c0, (st6_cell w q r 1 a b c d e f hq).trans h.c1, (st6_cell w q r 2 a b c d e f hq).trans h.c2, (st6_cell w q r 3 a b c d e f hq).trans h.c3, (st6_cell w q r 4 a b c d e f hq).trans h.c4, (st6_cell w q r 5 a b c d e f hq).trans h.c5⟩
theorem Fz.put {w : World} {q r : Nat} (h : Fz w r) (a b c d e f : Value) : Fz (st6 w q a b c d e f) r :=
  ⟨(st6_frozen w q r 0 a b c d e f).trans h.f0, (st6_frozen w q r 1 a b c d e f).trans h.f1, (st6_frozen w q r 2 a b c d e f).trans h.f2, (st6_frozen w q r 3 a b c d e f).trans h.f3, (st6_frozen w q r 4 a b c d e f).trans h.f4, (st6_frozen w q r 5 a b c d e f).trans h.f5⟩
theorem Br.wrote {w : World} {q : Nat} {s : Int} {k : Bool} {n lo hi p : Int} (h : Br w q s k n lo hi p) (s' : Int) (k' : Bool) (n' lo' hi' p' : Int) : Br (st6 w q (.int .i64 s') (.bool k') (.int .i64 n') (.int .i64 lo') (.int .i64 hi') (.int .i64 p')) q s' k' n' lo' hi' p' := by
  have c0 := h.c0
  have c1 := h.c1
  have c2 := h.c2
  have c3 := h.c3
  have c4 := h.c4
  have c5 := h.c5
  unfold st6
  refine ⟨?_, ?_, ?_, ?_, ?_, ?_⟩ <;> simp [go_sem, *]
theorem st6_size (w : World) (q : Nat) (a b c d e f : Value) : (st6 w q a b c d e f).heap.size = w.heap.size := by unfold st6; simp
theorem st6_below {N : Nat} {w0 w : World} (h : Below N w0 w) (q : Nat) (hq : N ≤ q) (a b c d e f : Value) : Below N w0 (st6 w q a b c d e f) :=
  (((((h.setCell (p := ⟨q, 0, none⟩) hq a).setCell (p := ⟨q, 1, none⟩) hq b).setCell (p := ⟨q, 2, none⟩) hq c).setCell (p := ⟨q, 3, none⟩) hq d).setCell (p := ⟨q, 4, none⟩) hq e).setCell (p := ⟨q, 5, none⟩) hq f
theorem lift {S : World → Prop} {f : Nat} {args : Array Value} {w1 : World} {r : Value} (h : Calls Try.prog f args w1 fun e w' => e = .returned r ∧ Below w1.heap.size w1 w') (hS : S w1) (hcl : ∀ a b, S a → Below a.heap.size a b → S b) : Calls Try.prog f args w1 fun e w' => e = .returned r ∧ S w' :=
  h.mono fun _ _ ⟨h1, h2⟩ => ⟨h1, hcl _ _ hS h2⟩
theorem New1.bel {w w' : World} (h : New1 w w') : Below w.heap.size w w' := by obtain ⟨o, rfl⟩ := h; exact (Below.refl _ _).alloc (Nat.le_refl _) _
theorem New2.bel {w w' : World} (h : New2 w w') : Below w.heap.size w w' := by obtain ⟨o, p, rfl⟩ := h; exact ((Below.refl _ _).alloc (Nat.le_refl _) _).alloc (by simp) _
theorem New3.bel {w w' : World} (h : New3 w w') : Below w.heap.size w w' := by obtain ⟨o, p, q, rfl⟩ := h; exact (by repeat (first | exact Below.refl _ _ | (refine Below.drew ?_) | (refine below_drewN ?_ _) | (refine Below.setCell ?_ (by first | omega | (simp; done) | (simp; omega)) _) | (refine Below.alloc ?_ (by first | omega | (simp; done) | (simp; omega)) _) | (refine Below.trans ?_ (Below.mono (by assumption) (by first | omega | (simp; done) | (simp; omega))))))
theorem New4.bel {w w' : World} (h : New4 w w') : Below w.heap.size w w' := by obtain ⟨o, p, q, r, rfl⟩ := h; exact (by repeat (first | exact Below.refl _ _ | (refine Below.drew ?_) | (refine below_drewN ?_ _) | (refine Below.setCell ?_ (by first | omega | (simp; done) | (simp; omega)) _) | (refine Below.alloc ?_ (by first | omega | (simp; done) | (simp; omega)) _) | (refine Below.trans ?_ (Below.mono (by assumption) (by first | omega | (simp; done) | (simp; omega))))))
theorem New5.bel {w w' : World} (h : New5 w w') : Below w.heap.size w w' := by obtain ⟨o, p, q, r, s, rfl⟩ := h; exact (by repeat (first | exact Below.refl _ _ | (refine Below.drew ?_) | (refine below_drewN ?_ _) | (refine Below.setCell ?_ (by first | omega | (simp; done) | (simp; omega)) _) | (refine Below.alloc ?_ (by first | omega | (simp; done) | (simp; omega)) _) | (refine Below.trans ?_ (Below.mono (by assumption) (by first | omega | (simp; done) | (simp; omega))))))
theorem bel0 {f : Nat} {args : Array Value} {w1 : World} {r : Value} (h : Calls Try.prog f args w1 fun e w' => e = .returned r ∧ w' = w1) : Calls Try.prog f args w1 fun e w' => e = .returned r ∧ Below w1.heap.size w1 w' := h.mono fun _ _ ⟨h1, h2⟩ => ⟨h1, by rw [h2]; exact Below.refl _ _⟩
theorem bel1 {f : Nat} {args : Array Value} {w1 : World} {r : Value} (h : Calls Try.prog f args w1 fun e w' => e = .returned r ∧ New1 w1 w') : Calls Try.prog f args w1 fun e w' => e = .returned r ∧ Below w1.heap.size w1 w' := h.mono fun _ _ ⟨h1, h2⟩ => ⟨h1, h2.bel⟩
theorem bel2 {f : Nat} {args : Array Value} {w1 : World} {r : Value} (h : Calls Try.prog f args w1 fun e w' => e = .returned r ∧ New2 w1 w') : Calls Try.prog f args w1 fun e w' => e = .returned r ∧ Below w1.heap.size w1 w' := h.mono fun _ _ ⟨h1, h2⟩ => ⟨h1, h2.bel⟩
theorem bel3 {f : Nat} {args : Array Value} {w1 : World} {r : Value} (h : Calls Try.prog f args w1 fun e w' => e = .returned r ∧ New3 w1 w') : Calls Try.prog f args w1 fun e w' => e = .returned r ∧ Below w1.heap.size w1 w' := h.mono fun _ _ ⟨h1, h2⟩ => ⟨h1, h2.bel⟩
theorem bel4 {f : Nat} {args : Array Value} {w1 : World} {r : Value} (h : Calls Try.prog f args w1 fun e w' => e = .returned r ∧ New4 w1 w') : Calls Try.prog f args w1 fun e w' => e = .returned r ∧ Below w1.heap.size w1 w' := h.mono fun _ _ ⟨h1, h2⟩ => ⟨h1, h2.bel⟩
theorem bel5 {f : Nat} {args : Array Value} {w1 : World} {r : Value} (h : Calls Try.prog f args w1 fun e w' => e = .returned r ∧ New5 w1 w') : Calls Try.prog f args w1 fun e w' => e = .returned r ∧ Below w1.heap.size w1 w' := h.mono fun _ _ ⟨h1, h2⟩ => ⟨h1, h2.bel⟩
theorem lp_up (x : BitVec 3) (h : x &&& 3 = x) : lp (up x) = x := by unfold lp; rw [low_up]; exact h
theorem sjoinB (x y : BitVec 3) (w : World) : Calls Try.prog 88 #[.int .i64 (up x), .int .i64 (up y)] w fun e w' => e = .returned (.int .i64 (up (x ||| y))) ∧ Below w.heap.size w w' := by
  have h := bel0 (sjoin_any (up x) (up y) w)
  rw [low_up, low_up] at h
  exact h
theorem swithinB (x y : BitVec 3) (w : World) : Calls Try.prog 95 #[.int .i64 (up x), .int .i64 (up y)] w fun e w' => e = .returned (.bool (withinS x y)) ∧ Below w.heap.size w w' := by
  have h := bel0 (swithin_any (up x) (up y) w)
  rw [low_up, low_up] at h
  exact h
theorem pjoinB (x y : BitVec 3) (w : World) (hx : x &&& 3 = x) (hy : y &&& 3 = y) : Calls Try.prog 91 #[.int .i64 (up x), .int .i64 (up y)] w fun e w' => e = .returned (.int .i64 (up (x ||| y))) ∧ Below w.heap.size w w' := by
  have h := bel0 (pjoin_any (up x) (up y) w)
  rw [lp_up x hx, lp_up y hy] at h
  exact h
theorem pwithinB (x y : BitVec 3) (w : World) (hx : x &&& 3 = x) (hy : y &&& 3 = y) : Calls Try.prog 98 #[.int .i64 (up x), .int .i64 (up y)] w fun e w' => e = .returned (.bool (withinS x y)) ∧ Below w.heap.size w w' := by
  have h := bel0 (pwithin_any (up x) (up y) w)
  rw [lp_up x hx, lp_up y hy] at h
  exact h
end Go.Proofs.Ytmhicllhjiglkaa
namespace Go.Proofs.Ytmhicllhjiglkaa
open Go.RowKit
/-- a slice of ints can be read -/
def Ri (w : World) (a : Option Addr) (xs : List Int) : Prop := ∀ i x, xs[i]? = some x → ∃ b o, a = some ⟨b, o, none⟩ ∧ w.cell? ⟨b, o + i, none⟩ = some (.int .i64 x)
theorem Ri.nil (w : World) (a : Option Addr) : Ri w a [] := fun i x h => by simp at h
theorem Ri.head {w : World} {a : Option Addr} {y : Int} {t : List Int} (h : Ri w a (y :: t)) : ∃ b o, a = some ⟨b, o, none⟩ ∧ w.cell? ⟨b, o, none⟩ = some (.int .i64 y) ∧ Ri w (some ⟨b, o + 1, none⟩) t := by
  obtain ⟨b, o, rfl, hc⟩ := h 0 y rfl
  refine ⟨b, o, rfl, hc, fun i x hx => ?_⟩
  obtain ⟨b2, o2, e, hc2⟩ := h (i + 1) x hx
  obtain ⟨rfl, rfl⟩ : b = b2 ∧ o = o2 := by simpa using e
  exact ⟨b, o + 1, rfl, by rw [Nat.add_assoc, Nat.add_comm 1 i]; exact hc2⟩
theorem Ri.at {w : World} {a : Option Addr} {xs : List Int} (h : Ri w a xs) {i : Nat} (hi : i < xs.length) : ∃ b o, a = some ⟨b, o, none⟩ ∧ w.cell? ⟨b, o + i, none⟩ = some (.int .i64 (xs.getD i 0)) := by
  obtain ⟨b, o, e, hc⟩ := h i (xs.getD i 0) (by simp [hi])
  exact ⟨b, o, e, hc⟩
theorem Ri.keep {w w' : World} {a : Option Addr} {xs : List Int} {B : Nat} (h : Ri w a xs) (hb : Below B w w') (hB : ∀ x, a = some x → x.block < B) : Ri w' a xs := fun i x hx => by
  obtain ⟨b, o, rfl, hc⟩ := h i x hx
  exact ⟨b, o, rfl, (hb.cell (p := ⟨b, o + i, none⟩) (hB ⟨b, o, none⟩ rfl)).trans hc⟩
theorem Ri.step {w : World} {b o : Nat} {t : List Int} {c : Nat} (ht : Ri w (some ⟨b, o + 1, none⟩) t) (h : t.length + 1 ≤ c) : Ri w (if c = 1 then some ⟨b, o, none⟩ else some ⟨b, o + 1, none⟩) t := by
  split
  · rename_i e
    have : t = [] := List.eq_nil_of_length_eq_zero (by omega)
    subst this; exact Ri.nil _ _
  · exact ht
theorem Ri.tail {w : World} {b o : Nat} {y : Int} {t : List Int} (h : Ri w (some ⟨b, o, none⟩) (y :: t)) : Ri w (some ⟨b, o + 1, none⟩) t := by
  obtain ⟨b2, o2, e, _, h2⟩ := h.head
  obtain ⟨rfl, rfl⟩ : b = b2 ∧ o = o2 := by simpa using e
  exact h2
/-- a part of a slice: what reads the one reads the other -/
def Su (a : Option Addr) (xs : List Int) (a' : Option Addr) (ys : List Int) : Prop := ∀ w, Ri w a xs → Ri w a' ys
theorem Ri.keep' {w w' : World} {a : Option Addr} {xs : List Int} (h : Ri w a xs) (hb : Below w.heap.size w w') : Ri w' a xs := fun i x hx => by
  obtain ⟨b, o, rfl, hc⟩ := h i x hx
  exact ⟨b, o, rfl, (hb.cell (p := ⟨b, o + i, none⟩) (World.block_lt_of_cell? w _ hc)).trans hc⟩
theorem Ri.drewN {w : World} {a : Option Addr} {xs : List Int} (h : Ri w a xs) (n : Nat) : Ri (w.drewN n) a xs := h
def lenOf : Value → Nat
  | .slice _ n _ => n
  | _ => 0
end Go.Proofs.Ytmhicllhjiglkaa
namespace Go.Proofs.Ytmhicllhjiglkaa
open Go.RowKit
set_option maxRecDepth 100000 in
set_option maxHeartbeats 1000000 in
theorem from_su (xs : List Int) (a : Option Addr) (c : Nat) (x : Int) (w : World) (hr : Ri w a xs) (hc : xs.length ≤ c) :
    Calls Try.prog 99 #[.slice a xs.length c, .int .i64 x] w fun e w' => w' = w ∧ ∃ a' c', e = .returned (.slice a' (xs.dropWhile (fun y => decide (y < x))).length c') ∧ Su a xs a' (xs.dropWhile (fun y => decide (y < x))) ∧ (xs.dropWhile (fun y => decide (y < x))).length ≤ c' ∧ c' ≤ c := by
  have HR : Hid (Ri w a xs) := hr
  clear hr
  go_enter Try.func99, Try.ntmps99
  go_wp2_with fail
  go_loop [0] (fun s0 => ∃ (a' : Option Addr) (ys : List Int) (c' : Nat), s0 = .slice a' ys.length c' ∧ Hid (Su a xs a' ys) ∧ ys.length ≤ c' ∧ c' ≤ c ∧ Hid (ys.dropWhile (fun y => decide (y < x)) = xs.dropWhile (fun y => decide (y < x)))) (fun s0 => lenOf s0)
  case atStart => exact ⟨a, xs, c, rfl, fun _ h => h, hc, Nat.le_refl _, rfl⟩
  case round =>
    obtain ⟨a', ys, c', rfl, h1, h2, h3, h4⟩ := hrel
    cases ys with
    | nil =>
      go_wp2
      go_ret
      refine ⟨rfl, a', c', ?_, ?_⟩
      · rw [← h4.out]; rfl
      · rw [← h4.out]; exact ⟨fun _ _ => Ri.nil _ _, h2, h3⟩
    | cons y t =>
      obtain ⟨b, o, rfl, hcell, ht⟩ := (h1.out _ HR.out).head
      have h2' : t.length + 1 ≤ c' := by simpa using h2
      by_cases hy : y < x
      · go_wp2
        refine ⟨⟨_, t, c' - 1, rfl, fun w2 h5 => (Ri.tail (h1.out w2 h5)).step h2', by omega, by omega, ?_⟩, by simp [lenOf]⟩
        have := h4.out
        rw [List.dropWhile_cons_of_pos (by simpa using hy)] at this
        exact this
      · go_wp2
        go_ret
        have := h4.out
        rw [List.dropWhile_cons_of_neg (by simpa using hy)] at this
        rw [← this]
        exact ⟨rfl, _, c', rfl, h1.out, h2, h3⟩
theorem bfrom_any (xs : List Int) (a : Option Addr) (c : Nat) (x : Int) (w : World) (hr : Ri w a xs) (hc : xs.length ≤ c) :
    Calls Try.prog 99 #[.slice a xs.length c, .int .i64 x] w fun e w' => w' = w ∧ ∃ a' c', e = .returned (.slice a' (xs.dropWhile (fun y => decide (y < x))).length c') ∧ Ri w a' (xs.dropWhile (fun y => decide (y < x))) ∧ (xs.dropWhile (fun y => decide (y < x))).length ≤ c' ∧ c' ≤ c :=
  (from_su xs a c x w hr hc).mono fun _ _ ⟨h1, a', c', h2, h3, h4⟩ => ⟨h1, a', c', h2, h3 w hr, h4⟩
/-- is all of the one in the other? -/
def wiL : List Int → List Int → Bool
  | [], _ => true
  | x :: t, b => match b.dropWhile (fun y => decide (y < x)) with
    | [] => false
    | y :: r => if y = x then wiL t (y :: r) else false
set_option maxRecDepth 100000 in
set_option maxHeartbeats 2000000 in
theorem bwithin_any (xs ys : List Int) (a b : Option Addr) (c d : Nat) (w : World) (hr : Ri w a xs) (hs : Ri w b ys) (hc : xs.length ≤ 9223372036854775807) (hd : ys.length ≤ d) :
    Calls Try.prog 50 #[.slice a xs.length c, .slice b ys.length d] w fun e w' => w' = w ∧ e = .returned (.bool (wiL xs ys)) := by
  have HR : Hid (Ri w a xs) := hr
  have HS : Hid (Ri w b ys) := hs
  clear hr hs
  go_enter Try.func50, Try.ntmps50
  go_wp2_with fail
  go_loop [1, 9] (fun s1 s9 => ∃ (b' : Option Addr) (zs : List Int) (d' k : Nat), s1 = .slice b' zs.length d' ∧ s9 = .int .i64 k ∧ k ≤ xs.length ∧ Hid (Ri w b' zs) ∧ zs.length ≤ d' ∧ d' ≤ d ∧ Hid (wiL (xs.drop k) zs = wiL xs ys)) (fun _ s9 => xs.length - (intOf s9).toNat)
  case atStart => exact ⟨b, ys, d, 0, rfl, rfl, Nat.zero_le _, HS, hd, Nat.le_refl _, by unfold Hid; simp⟩
  case round =>
    obtain ⟨b', zs, d', k, rfl, rfl, hk, h1, h2, h3, h4⟩ := hrel
    by_cases hk2 : k = xs.length
    · subst hk2
      go_wp2
      go_ret
      refine ⟨rfl, ?_⟩
      rw [← h4.out]; simp [wiL]
    · have hlt : k < xs.length := by omega
      have hlt' : (k : Int) < xs.length := by omega
      obtain ⟨ab, ao, rfl, hcell⟩ := HR.out.at hlt
      have HD : Hid (xs.drop k = xs.getD k 0 :: xs.drop (k + 1)) := by
        unfold Hid
        rw [List.drop_eq_getElem_cons hlt]; simp [hlt]
      generalize xs.getD k 0 = x at *
      have HF := fun w1 h => bfrom_any zs b' d' x w1 h h2
      go_upto_region 5 with (go_at_call 99; refine (HF _ h1.out).mono ?_; rintro e w' ⟨hw, b2, d2, rfl, q1, q2, q3⟩; obtain rfl := hw.symm)
      clear HF
      have HW : Hid (wiL (xs.drop k) zs = match zs.dropWhile (fun y => decide (y < x)) with | [] => false | y :: r => if y = x then wiL (xs.drop (k + 1)) (y :: r) else false) := by
        unfold Hid; rw [HD.out]; rfl
      rw [h4.out] at HW
      generalize zs.dropWhile (fun y => decide (y < x)) = us at *
      cases us with
      | nil =>
        go_wp2
        go_ret
        exact ⟨rfl, by rw [HW.out]; rfl⟩
      | cons y r =>
        obtain ⟨b3, o3, rfl, hcell2, -⟩ := q1.head
        by_cases hy : y = x
        · subst hy
          have HW2 : Hid (wiL xs ys = wiL (xs.drop (k + 1)) (y :: r)) := hide (by have h5 := HW.out; simpa using h5)
          have hz : ((r.length : Int) + 1 == 0) = false := beq_eq_false_iff_ne.2 (by omega)
          go_wp2
          refine ⟨⟨_, y :: r, d2, k + 1, rfl, by simp, by omega, q1, q2, by omega, HW2.out.symm⟩, by simp [intOf]; omega⟩
        · have HW2 : Hid (wiL xs ys = false) := hide (by have h5 := HW.out; simpa [hy] using h5)
          have hz : ((r.length : Int) + 1 == 0) = false := beq_eq_false_iff_ne.2 (by omega)
          have hb : (y != x) = true := by rw [bne_iff_ne]; exact hy
          clear hy
          go_wp2
          go_ret
          exact ⟨rfl, by rw [HW2.out]; rfl⟩
end Go.Proofs.Ytmhicllhjiglkaa
namespace Go.Proofs.Ytmhicllhjiglkaa
open Go.RowKit
/-- is a number among them? -/
def hasL (xs : List Int) (x : Int) : Bool := xs.any (fun y => y == x)
set_option maxRecDepth 100000 in
set_option maxHeartbeats 2000000 in
theorem brhas_any (xs : List Int) (a : Option Addr) (c : Nat) (x : Int) (w : World) (hr : Ri w a xs) (hc : xs.length ≤ 9223372036854775807) :
    Calls Try.prog 102 #[.slice a xs.length c, .int .i64 x] w fun e w' => w' = w ∧ e = .returned (.bool (hasL xs x)) := by
  have HR : Hid (Ri w a xs) := hr
  clear hr
  go_enter Try.func102, Try.ntmps102
  go_wp2_with fail
  go_loop [5] (fun s5 => ∃ k : Nat, s5 = .int .i64 k ∧ k ≤ xs.length ∧ Hid (hasL (xs.drop k) x = hasL xs x)) (fun s5 => xs.length - (intOf s5).toNat)
  case atStart => exact ⟨0, rfl, Nat.zero_le _, rfl⟩
  case round =>
    obtain ⟨k, rfl, hk, h4⟩ := hrel
    by_cases hk2 : k = xs.length
    · subst hk2
      go_wp2
      go_ret
      refine ⟨rfl, ?_⟩
      rw [← h4.out]; simp [hasL]
    · have hlt : k < xs.length := by omega
      have hlt' : (k : Int) < xs.length := by omega
      obtain ⟨ab, ao, rfl, hcell⟩ := HR.out.at hlt
      have HD : Hid (xs.drop k = xs.getD k 0 :: xs.drop (k + 1)) := by
        unfold Hid
        rw [List.drop_eq_getElem_cons hlt]; simp [hlt]
      generalize xs.getD k 0 = y at *
      have HW : Hid (hasL xs x = ((y == x) || hasL (xs.drop (k + 1)) x)) := by
        unfold Hid; rw [← h4.out, HD.out]; rfl
      by_cases hy : y = x
      · subst hy
        have HW2 : Hid (hasL xs y = true) := hide (by have h5 := HW.out; simpa using h5)
        go_wp2
        go_ret
        exact ⟨rfl, by rw [HW2.out]; rfl⟩
      · have hb : (y == x) = false := beq_eq_false_iff_ne.2 hy
        have HW2 : Hid (hasL xs x = hasL (xs.drop (k + 1)) x) := hide (by rw [HW.out, hb]; rfl)
        clear hy
        go_wp2
        exact ⟨⟨k + 1, by simp, by omega, HW2.out.symm⟩, by simp [intOf]; omega⟩
/-- are both lists the same? -/
def sameL (xs ys : List Int) : Bool := decide (xs = ys)
theorem take_same (xs ys : List Int) (k : Nat) (hl : xs.length = ys.length) (hk : k < xs.length) (h : xs.take k = ys.take k) : (xs.getD k 0 = ys.getD k 0 → xs.take (k + 1) = ys.take (k + 1)) ∧ (xs.getD k 0 ≠ ys.getD k 0 → sameL xs ys = false) := by
  constructor
  · intro e
    rw [List.take_succ_eq_append_getElem hk, List.take_succ_eq_append_getElem (by omega), h]
    congr 1
    have e1 : xs.getD k 0 = xs[k] := by simp [hk]
    have e2 : ys.getD k 0 = ys[k] := by simp [show k < ys.length by omega]
    rw [← e1, ← e2, e]
  · intro e
    unfold sameL
    rw [decide_eq_false_iff_not]
    intro t; subst t; exact e rfl
set_option maxRecDepth 100000 in
set_option maxHeartbeats 2000000 in
theorem brsame_any (xs ys : List Int) (a b : Option Addr) (c d : Nat) (w : World) (hr : Ri w a xs) (hs : Ri w b ys) (hc : xs.length ≤ 9223372036854775807) (_hd : ys.length ≤ 9223372036854775807) :
    Calls Try.prog 56 #[.slice a xs.length c, .slice b ys.length d] w fun e w' => (∃ n, w' = w.drewN n) ∧ e = .returned (.bool (sameL xs ys)) := by
  have HR : Hid (Ri w a xs) := hr
  have HS : Hid (Ri w b ys) := hs
  clear hr hs
  go_enter Try.func56, Try.ntmps56
  by_cases hl : xs.length = ys.length
  · have hl2 : ((xs.length : Int) != ys.length) = false := by simp [hl]
    go_wp2_with fail
    go_loopw [5] (fun sk wr => ∃ k n : Nat, wr = w.drewN n ∧ sk = .int .i64 k ∧ k ≤ xs.length ∧ Hid (xs.take k = ys.take k)) (fun sk _ => xs.length - (intOf sk).toNat)
    case atStart => exact ⟨0, 0, rfl, rfl, Nat.zero_le _, rfl⟩
    case round =>
      obtain ⟨k, n, rfl, rfl, hk, h4⟩ := hrel
      by_cases hk2 : k = xs.length
      · subst hk2
        go_wp2
        go_ret
        refine ⟨⟨n, rfl⟩, ?_⟩
        have e : xs = ys := by have t := h4.out; rw [List.take_of_length_le (Nat.le_refl _), List.take_of_length_le (by omega)] at t; exact t
        rw [show sameL xs ys = true from decide_eq_true e]; rfl
      · have hlt : k < xs.length := by omega
        have hlt' : (k : Int) < xs.length := by omega
        have hlt2 : (k : Int) < ys.length := by omega
        obtain ⟨ab, ao, rfl, hcell⟩ := HR.out.at hlt
        obtain ⟨bb, bo, rfl, hcell2⟩ := HS.out.at (show k < ys.length by omega)
        have ht := take_same xs ys k hl hlt h4.out
        generalize xs.getD k 0 = x at *
        generalize ys.getD k 0 = y at *
        by_cases hy : x = y
        · have HT := hide (ht.1 hy)
          have hb : (x != y) = false := by simp [hy]
          clear ht hy
          go_wp2
          go_quiet (fail)
          go_wp2
          exact ⟨⟨k + 1, n + nq, rfl, by simp, by omega, HT⟩, by simp [intOf]; omega⟩
        · have HT := hide (ht.2 hy)
          have hb : (x != y) = true := by rw [bne_iff_ne]; exact hy
          clear ht hy
          go_wp2
          go_quiet (fail)
          go_wp2
          go_ret
          exact ⟨⟨n + nq, by simp⟩, by rw [show sameL xs ys = false from HT.out]; rfl⟩
  · have hl2 : ((xs.length : Int) != ys.length) = true := by rw [bne_iff_ne]; omega
    go_wp2
    go_ret
    exact ⟨⟨0, rfl⟩, by congr 2; unfold sameL; simp; exact fun t => hl (by rw [t])⟩
set_option maxRecDepth 100000 in
set_option maxHeartbeats 2000000 in
theorem bequal_any (xs ys : List Int) (a b : Option Addr) (c d : Nat) (w : World) (hr : Ri w a xs) (hs : Ri w b ys) (hc : xs.length ≤ 9223372036854775807) (_hd : ys.length ≤ 9223372036854775807) :
    Calls Try.prog 103 #[.slice a xs.length c, .slice b ys.length d] w fun e w' => (∃ n, w' = w.drewN n) ∧ e = .returned (.bool (sameL xs ys)) := by
  have HR : Hid (Ri w a xs) := hr
  have HS : Hid (Ri w b ys) := hs
  clear hr hs
  go_enter Try.func103, Try.ntmps103
  by_cases hl : xs.length = ys.length
  · have hl2 : ((xs.length : Int) != ys.length) = false := by simp [hl]
    go_wp2_with fail
    go_loopw [13] (fun sk wr => ∃ k n : Nat, wr = w.drewN n ∧ sk = .int .i64 k ∧ k ≤ xs.length ∧ Hid (xs.take k = ys.take k)) (fun sk _ => xs.length - (intOf sk).toNat)
    case atStart => exact ⟨0, 0, rfl, rfl, Nat.zero_le _, rfl⟩
    case round =>
      obtain ⟨k, n, rfl, rfl, hk, h4⟩ := hrel
      by_cases hk2 : k = xs.length
      · subst hk2
        go_wp2
        go_ret
        refine ⟨⟨n, rfl⟩, ?_⟩
        have e : xs = ys := by have t := h4.out; rw [List.take_of_length_le (Nat.le_refl _), List.take_of_length_le (by omega)] at t; exact t
        rw [show sameL xs ys = true from decide_eq_true e]; rfl
      · have hlt : k < xs.length := by omega
        have hlt' : (k : Int) < xs.length := by omega
        have hlt2 : (k : Int) < ys.length := by omega
        obtain ⟨ab, ao, rfl, hcell⟩ := HR.out.at hlt
        obtain ⟨bb, bo, rfl, hcell2⟩ := HS.out.at (show k < ys.length by omega)
        have ht := take_same xs ys k hl hlt h4.out
        generalize xs.getD k 0 = x at *
        generalize ys.getD k 0 = y at *
        by_cases hy : x = y
        · have HT := hide (ht.1 hy)
          have hb : (x != y) = false := by simp [hy]
          clear ht hy
          go_wp2
          go_quiet (fail)
          go_wp2
          exact ⟨⟨k + 1, n + nq, rfl, by simp, by omega, HT⟩, by simp [intOf]; omega⟩
        · have HT := hide (ht.2 hy)
          have hb : (x != y) = true := by rw [bne_iff_ne]; exact hy
          clear ht hy
          go_wp2
          go_quiet (fail)
          go_wp2
          go_ret
          exact ⟨⟨n + nq, by simp⟩, by rw [show sameL xs ys = false from HT.out]; rfl⟩
  · have hl2 : ((xs.length : Int) != ys.length) = true := by rw [bne_iff_ne]; omega
    go_wp2
    go_ret
    exact ⟨⟨0, rfl⟩, by congr 2; unfold sameL; simp; exact fun t => hl (by rw [t])⟩
set_option maxRecDepth 100000 in
set_option maxHeartbeats 2000000 in
theorem bsame_any (xs ys : List Int) (a b : Option Addr) (c d : Nat) (w : World) (hr : Ri w a xs) (hs : Ri w b ys) (hc : xs.length ≤ 9223372036854775807) (hd : ys.length ≤ 9223372036854775807) :
    Calls Try.prog 55 #[.slice a xs.length c, .slice b ys.length d] w fun e w' => (∃ n, w' = w.drewN n) ∧ e = .returned (.bool (sameL xs ys)) := by
  have c1 := bequal_any xs ys a b c d w hr hs hc hd
  clear hr hs
  go_enter Try.func55, Try.ntmps55
  go_wp2_with (go_at_call 103; refine c1.mono ?_; rintro e w' ⟨⟨n, rfl⟩, rfl⟩)
  go_ret
  exact ⟨⟨n, rfl⟩, rfl⟩
end Go.Proofs.Ytmhicllhjiglkaa
namespace Go.Proofs.Ytmhicllhjiglkaa
open Go.RowKit
theorem bnan_any (x : Int) (w : World) : Calls Try.prog 139 #[.int .i64 x] w fun e w' => w' = w ∧ e = .returned (.bool false) := by
  go_enter Try.func139, Try.ntmps139
  go_wp2
  go_ret
  exact ⟨rfl, by simp⟩
theorem bsnan_any (x : Int) (w : World) : Calls Try.prog 138 #[.int .i64 x] w fun e w' => w' = w ∧ e = .returned (.bool false) := by
  go_enter Try.func138, Try.ntmps138
  go_wp2
  go_ret
  exact ⟨rfl, by simp⟩
theorem bless_any (x y : Int) (w : World) : Calls Try.prog 137 #[.int .i64 x, .int .i64 y] w fun e w' => w' = w ∧ e = .returned (.bool (decide (x < y))) := by
  go_enter Try.func137, Try.ntmps137
  go_wp2_with (go_at_call 139; refine (bnan_any _ _).mono ?_; rintro e w' ⟨h, rfl⟩; obtain rfl := h.symm)
  go_ret
  exact ⟨rfl, by simp⟩
/-- they rise -/
def Up (xs : List Int) : Prop := ∀ i j, i < j → j < xs.length → xs.getD i 0 < xs.getD j 0
theorem has_at (xs : List Int) (x : Int) (m : Nat) (h1 : ∀ k, k < m → xs.getD k 0 < x) (h2 : ∀ k, m ≤ k → k < xs.length → x ≤ xs.getD k 0) (hu : Up xs) (hm : m ≤ xs.length) :
    hasL xs x = (decide (m < xs.length) && (xs.getD m 0 == x)) := by
  unfold hasL
  by_cases h : m < xs.length ∧ xs.getD m 0 = x
  · rw [show decide (m < xs.length) = true from decide_eq_true h.1, show (xs.getD m 0 == x) = true from by simpa using h.2]
    show xs.any (fun y => y == x) = true
    rw [List.any_eq_true]
    exact ⟨xs.getD m 0, by simp [h.1], by simpa using h.2⟩
  · have e : (decide (m < xs.length) && (xs.getD m 0 == x)) = false := by
      by_cases h3 : m < xs.length
      · have : xs.getD m 0 ≠ x := fun t => h ⟨h3, t⟩
        rw [show (xs.getD m 0 == x) = false from by simpa using this]; simp
      · rw [show decide (m < xs.length) = false from decide_eq_false h3]; rfl
    rw [e, List.any_eq_false]
    intro y hy
    obtain ⟨k, hk, rfl⟩ := List.getElem_of_mem hy
    have ek : xs.getD k 0 = xs[k] := by simp [hk]
    intro t
    have t : xs[k] = x := by simpa using t
    rcases Nat.lt_or_ge k m with hkm | hkm
    · have := h1 k hkm; rw [ek, t] at this; omega
    · by_cases hkm2 : k = m
      · subst hkm2; exact h ⟨hk, by rw [ek, t]⟩
      · have := hu m k (by omega) hk
        have g := h2 m (Nat.le_refl _) (by omega)
        rw [ek, t] at this; omega
theorem half_le (i j : Nat) (h : i < j) : i ≤ (i + j) / 2 ∧ (i + j) / 2 < j := by omega
set_option maxRecDepth 100000 in
set_option maxHeartbeats 4000000 in
theorem bsearch_any (xs : List Int) (a : Option Addr) (c : Nat) (x : Int) (w : World) (hr : Ri w a xs) (hc : xs.length ≤ 1000000) (hu : Up xs) :
    Calls Try.prog 123 #[.slice a xs.length c, .int .i64 x] w fun e w' => w' = w ∧ ∃ m : Int, e = .returned (.tuple #[.int .i64 m, .bool (hasL xs x)]) := by
  have HR : Hid (Ri w a xs) := hr
  have HU : Hid (Up xs) := hu
  clear hr hu
  go_enter Try.func123, Try.ntmps123
  go_wp2_with fail
  go_loop [7, 8] (fun si sj => ∃ i j : Nat, si = .int .i64 i ∧ sj = .int .i64 j ∧ i ≤ j ∧ j ≤ xs.length ∧ Hid ((∀ k, k < i → xs.getD k 0 < x) ∧ (∀ k, j ≤ k → k < xs.length → x ≤ xs.getD k 0))) (fun si sj => (intOf sj).toNat - (intOf si).toNat)
  case atStart => exact ⟨0, xs.length, rfl, rfl, Nat.zero_le _, Nat.le_refl _, ⟨fun k h => by omega, fun k h h2 => by omega⟩⟩
  case round =>
    obtain ⟨i, j, rfl, rfl, hij, hj, h4⟩ := hrel
    by_cases hlt : i = j
    · subst hlt
      have HE := hide (has_at xs x i h4.out.1 h4.out.2 HU.out hj)
      by_cases hn : i < xs.length
      · have hn' : (i : Int) < xs.length := by omega
        obtain ⟨ab, ao, rfl, hcell⟩ := HR.out.at hn
        have HE2 := hide (by have := HE.out; rw [show decide (i < xs.length) = true from decide_eq_true hn] at this; simpa using this : hasL xs x = (xs.getD i 0 == x))
        clear HE h4
        generalize xs.getD i 0 = y at *
        by_cases hy : y = x
        · subst hy
          go_wp2_with (go_at_call 138; refine (bsnan_any _ _).mono ?_; rintro e w' ⟨h, rfl⟩; obtain rfl := h.symm)
          go_ret2
          exact ⟨rfl, _, by rw [HE2.out]; simp; rfl⟩
        · have hb : (y == x) = false := beq_eq_false_iff_ne.2 hy
          clear hy
          go_wp2_with (go_at_call 138; refine (bsnan_any _ _).mono ?_; rintro e w' ⟨h, rfl⟩; obtain rfl := h.symm)
          go_ret2
          exact ⟨rfl, _, by rw [HE2.out, hb]; rfl⟩
      · have hn' : ¬ (i : Int) < xs.length := by omega
        have HE2 := hide (by have := HE.out; rw [show decide (i < xs.length) = false from decide_eq_false hn] at this; simpa using this : hasL xs x = false)
        clear HE h4
        go_wp2_with (go_at_call 138; refine (bsnan_any _ _).mono ?_; rintro e w' ⟨h, rfl⟩; obtain rfl := h.symm)
        go_ret2
        exact ⟨rfl, _, by rw [HE2.out]; rfl⟩
    · have hlt2 : (i : Int) < j := by omega
      go_upto_region 5 with fail
      obtain ⟨m, hm, m1, m2⟩ : ∃ m : Nat, ((i : Int) + j) / 2 = m ∧ i ≤ m ∧ m < j := ⟨(i + j) / 2, by omega, by omega, by omega⟩
      rw [hm]
      clear hm
      have hml : m < xs.length := by omega
      have hml2 : (m : Int) < xs.length := by omega
      obtain ⟨ab, ao, rfl, hcell⟩ := HR.out.at hml
      by_cases hy : xs.getD m 0 < x
      · have HT : Hid (∀ k, k < m + 1 → xs.getD k 0 < x) := fun k hk => by
          by_cases e : k = m
          · subst e; exact hy
          · have := HU.out k m (by omega) hml; omega
        have hb : decide (xs.getD m 0 < x) = true := decide_eq_true hy
        clear hy
        generalize xs.getD m 0 = y at *
        go_wp2_with (go_at_call 137; refine (bless_any _ _ _).mono ?_; rintro e w' ⟨h, rfl⟩; obtain rfl := h.symm)
        exact ⟨⟨m + 1, j, by simp, rfl, by omega, hj, ⟨HT.out, h4.out.2⟩⟩, by simp [intOf]; omega⟩
      · have HT : Hid (∀ k, m ≤ k → k < xs.length → x ≤ xs.getD k 0) := fun k hk hk2 => by
          by_cases e : k = m
          · subst e; omega
          · have := HU.out m k (by omega) hk2; omega
        have hb : decide (xs.getD m 0 < x) = false := decide_eq_false hy
        clear hy
        generalize xs.getD m 0 = y at *
        go_wp2_with (go_at_call 137; refine (bless_any _ _ _).mono ?_; rintro e w' ⟨h, rfl⟩; obtain rfl := h.symm)
        exact ⟨⟨i, m, rfl, rfl, m1, by omega, ⟨h4.out.1, HT.out⟩⟩, by simp [intOf]; omega⟩
set_option maxRecDepth 100000 in
set_option maxHeartbeats 2000000 in
theorem bhas_any (xs : List Int) (a : Option Addr) (c : Nat) (x : Int) (w : World) (hr : Ri w a xs) (hc : xs.length ≤ 1000000) (hu : Up xs) :
    Calls Try.prog 74 #[.slice a xs.length c, .int .i64 x] w fun e w' => w' = w ∧ e = .returned (.bool (hasL xs x)) := by
  have c1 := bsearch_any xs a c x w hr hc hu
  clear hr hu
  go_enter Try.func74, Try.ntmps74
  go_wp2_with (go_at_call 123; refine c1.mono ?_; rintro e w' ⟨h, m, rfl⟩; obtain rfl := h.symm)
  go_ret
  exact ⟨rfl, rfl⟩
end Go.Proofs.Ytmhicllhjiglkaa
namespace Go.Proofs.Ytmhicllhjiglkaa
open Go.RowKit
def I64 (ps : List Int) : List Value := ps.map fun n => .int .i64 n
def RowN (w : World) (g : Nat) (ps : List Int) : Prop := ∀ j n, ps[j]? = some n → w.cell? ⟨g, j, none⟩ = some (.int .i64 n)
theorem info3p : (Try.prog.info? 3).map (fun i => (i.zero, i.size, i.bytes)) = some (some (.int .i64 0), 1, 8) := by kernel_rfl
/-- a row of numbers of the call's own, and all else as it was -/
structure St (w0 wr : World) (v : Value) (ps : List Int) : Prop where
  own : wr.ownsRow w0.heap.size 3 1 v ps.length (I64 ps)
  bel : Below w0.heap.size w0 wr
theorem St.slice {w0 wr : World} {v : Value} {ps : List Int} (h : St w0 wr v ps) : ∃ a c, v = .slice a ps.length c := by
  rcases h.own.2 with ⟨rfl, h2⟩ | ⟨g, cap, cur, rfl, _⟩
  · exact ⟨none, 0, by rw [h2]⟩
  · exact ⟨_, _, rfl⟩
theorem St.start (w0 : World) : St w0 w0 (.slice none 0 0) [] := ⟨World.ownsRow_nil _ _ _ _, Below.refl _ _⟩
theorem St.drewN {w0 wr : World} {v : Value} {ps : List Int} (h : St w0 wr v ps) (j : Nat) : St w0 (wr.drewN j) v ps := ⟨h.own, below_drewN h.bel j⟩
theorem St.row {w0 wr : World} {a : Option Addr} {n : Int} {ps : List Int} {c : Nat} (h : St w0 wr (.slice a (ps.length + 1) c) (n :: ps)) : ∃ g, a = some ⟨g, 0, none⟩ ∧ RowN wr g (n :: ps) := by
  rcases h.own.2 with ⟨h1, h2⟩ | ⟨g, cap, cur, h1, h3, h4, h5, h6, h7, h8⟩
  · simp at h2
  · simp only [Value.slice.injEq] at h1
    obtain ⟨rfl, -, rfl⟩ := h1
    refine ⟨g, rfl, fun j m hj => ?_⟩
    have hc := h.own.cells (g := g) rfl j (.int .i64 m) (by unfold I64; rw [List.getElem?_map, hj]; rfl)
    have e : (⟨g, 0, none⟩ : Addr).add j = ⟨g, j, none⟩ := by
      unfold Addr.add
      split
      · rename_i hj0; rw [hj0]
      · simp
    rw [e] at hc
    exact hc
/-- one number more -/
theorem wpList_app1 {ops : Array Oper} {rest : List Oper} {o : Oper} {a : Act} {Q : Exit → Act → World → Prop} (w0 w1 : World) (hgd : o.guard = none) (s x : Operand)
    (ho : o.op = .call { callee := .builtin .append, args := #[s, x], argTypes := #[38, 38] })
    (v : Value) (ps : List Int) (n : Int) (hS : St w0 w1 v ps) (hs : a.eval s = v) (hx : a.eval x = .slice (some ⟨w1.heap.size, 0, none⟩) 1 1) (hl : ps.length ≤ 1000000)
    (h : ∀ a' c' w', St w0 w' (.slice a' (ps.length + 1) c') (ps ++ [n]) → wpList Try.prog ops Q rest (a.put o.dst (.slice a' (ps.length + 1) c')) w') : wpList Try.prog ops Q (o :: rest) a (w1.alloc (.cells #[.int .i64 n] 3)) := by
  obtain ⟨i0, hi, hz0, hz1, hz2⟩ := info_parts info3p
  refine wpList_append_own _ hgd s x 38 ho w0.heap.size 3 i0 (.int .i64 0) 1 8 Try.underlying38 hi hz0 hz1 hz2 rfl (by decide) v ps.length (I64 ps) hs (hS.own.alloc _) ⟨w1.heap.size, 0, none⟩ 1 1 [.int .i64 n] hx rfl ?_ ?_ ?_ ?_ ?_ ?_
  · intro j u hj
    cases j with
    | zero => simp at hj; subst hj; simp [Addr.add]
    | succ j => simp at hj
  · intro u hu; simp at hu; subst hu; rfl
  · unfold maxLen; omega
  · omega
  · have := hS.bel.size; simp; omega
  · intro v' w' hown hgrow _
    have hB := hS.bel.size
    have hT : St w0 w' v' (ps ++ [n]) := by
      refine ⟨?_, ((hS.bel.alloc (by omega) _)).grown hgrow (by simp; omega) (fun k hk => ((hS.own.lt k hk).1))⟩
      have e : I64 (ps ++ [n]) = I64 ps ++ [.int .i64 n] := by simp [I64]
      rw [e]
      simpa using hown
    obtain ⟨a', c', rfl⟩ := hT.slice
    simp only [List.length_append, List.length_cons, List.length_nil, Nat.zero_add] at hT ⊢
    exact h a' c' w' hT
theorem St.ri {w0 wr : World} {a : Option Addr} {n c : Nat} {ps : List Int} (h : St w0 wr (.slice a n c) ps) : Ri wr a ps := by
  obtain ⟨a2, c2, e⟩ := h.slice
  obtain ⟨rfl, rfl, rfl⟩ : a = a2 ∧ n = ps.length ∧ c = c2 := by simpa using e
  intro i x hx
  cases ps with
  | nil => simp at hx
  | cons y t =>
    obtain ⟨g, rfl, hr⟩ := St.row (n := y) (ps := t) h
    exact ⟨g, 0, rfl, by rw [Nat.zero_add]; exact hr i x hx⟩
theorem St.nn {w0 wr : World} {a : Option Addr} {n c : Nat} {ps : List Int} (h : St w0 wr (.slice a n c) ps) : a = none → c = 0 := by
  intro e
  subst e
  rcases h.own.2 with ⟨h1, h2⟩ | ⟨g, cap, cur, h1, _⟩
  · simp only [Value.slice.injEq] at h1; exact h1.2.2
  · simp at h1
theorem St.cap {w0 wr : World} {a : Option Addr} {n c : Nat} {ps : List Int} (h : St w0 wr (.slice a n c) ps) : ps.length ≤ c := by
  rcases h.own.2 with ⟨h1, h2⟩ | ⟨g, cap, cur, h1, h3, h4, h5, h6, h7, h8⟩
  · rw [h2]; exact Nat.zero_le _
  · simp only [Value.slice.injEq] at h1
    obtain ⟨rfl, -, rfl⟩ := h1
    omega
end Go.Proofs.Ytmhicllhjiglkaa
namespace Go.Proofs.Ytmhicllhjiglkaa
open Go.RowKit
/-- is x among the numbers, each modulo n? -/
def hitL (n : Nat) : List Int → Nat → Bool
  | [], _ => false
  | r :: t, x => (wrap64 ((IntKind.u64.wrap r).tmod (n : Int)) == (x : Int)) || hitL n t x
def hit (n : Nat) (raw : List Int) (x : Nat) : Bool := hitL n (raw.take 200) x
/-- the set that is made of raw numbers: those below k -/
def setL (n : Nat) (raw : List Int) : Nat → List Int
  | 0 => []
  | k + 1 => setL n raw k ++ (if hit n raw k = true then [(k : Int)] else [])
theorem setL_le (n : Nat) (raw : List Int) (k : Nat) : (setL n raw k).length ≤ k := by
  induction k with
  | zero => simp [setL]
  | succ k ih => unfold setL; split <;> simp <;> omega
theorem i64_one (ps : List Int) : ∀ u ∈ I64 ps, u.oneCell' = true := by
  intro u hu; simp [I64] at hu; obtain ⟨x, _, rfl⟩ := hu; rfl
/-- a slice of numbers more -/
theorem wpList_appN {ops : Array Oper} {rest : List Oper} {o : Oper} {a : Act} {Q : Exit → Act → World → Prop} (w0 w1 : World) (hgd : o.guard = none) (s x : Operand)
    (ho : o.op = .call { callee := .builtin .append, args := #[s, x], argTypes := #[38, 38] })
    (v : Value) (ps zs : List Int) (ad : Addr) (c : Nat) (hS : St w0 w1 v ps) (hs : a.eval s = v) (hx : a.eval x = .slice (some ad) zs.length c) (hz : Ri w1 (some ad) zs) (hl : ps.length + zs.length ≤ 1000000)
    (h : ∀ a' c' w', St w0 w' (.slice a' (ps.length + zs.length) c') (ps ++ zs) → wpList Try.prog ops Q rest (a.put o.dst (.slice a' (ps.length + zs.length) c')) w') : wpList Try.prog ops Q (o :: rest) a w1 := by
  obtain ⟨i0, hi, hz0, hz1, hz2⟩ := info_parts info3p
  refine wpList_append_own _ hgd s x 38 ho w0.heap.size 3 i0 (.int .i64 0) 1 8 Try.underlying38 hi hz0 hz1 hz2 rfl (by decide) v ps.length (I64 ps) hs hS.own ad zs.length c (I64 zs) hx (by simp [I64]) ?_ (i64_one zs) ?_ ?_ ?_ ?_
  · intro j u hj
    unfold I64 at hj
    rw [List.getElem?_map, Option.map_eq_some_iff] at hj
    obtain ⟨n, hn, rfl⟩ := hj
    obtain ⟨b, o', e, hc⟩ := hz j n hn
    obtain rfl := Option.some.inj e
    have e2 : (⟨b, o', none⟩ : Addr).add j = ⟨b, o' + j, none⟩ := by
      unfold Addr.add
      split
      · rename_i hj0; rw [hj0]; rfl
      · rfl
    rw [e2]; exact hc
  · unfold maxLen; omega
  · omega
  · exact hS.bel.size
  · intro v' w' hown hgrow _
    have hT : St w0 w' v' (ps ++ zs) := by
      refine ⟨?_, hS.bel.grown hgrow hS.bel.size (fun k hk => ((hS.own.lt k hk).1))⟩
      have e : I64 (ps ++ zs) = I64 ps ++ I64 zs := by simp [I64]
      rw [e]
      simpa using hown
    obtain ⟨a', c', rfl⟩ := hT.slice
    simp only [List.length_append] at hT ⊢
    exact h a' c' w' hT
/-- nothing more -/
theorem wpList_app0 {ops : Array Oper} {rest : List Oper} {o : Oper} {a : Act} {Q : Exit → Act → World → Prop} (w0 w1 : World) (hgd : o.guard = none) (s x : Operand)
    (ho : o.op = .call { callee := .builtin .append, args := #[s, x], argTypes := #[38, 38] })
    (v : Value) (ps : List Int) (hS : St w0 w1 v ps) (hs : a.eval s = v) (hx : a.eval x = .slice none 0 0)
    (h : wpList Try.prog ops Q rest (a.put o.dst v) w1) : wpList Try.prog ops Q (o :: rest) a w1 := by
  refine wpList_plain hgd fun K hK => ?_
  obtain ⟨i0, hi, hz0, hz1, hz2⟩ := info_parts info3p
  have hr := run_append_owned_none (P := Try.prog) (w := w1) w0.heap.size 38 o.type 3 i0 1 Try.underlying38 hi v ps.length (I64 ps) hS.own
  unfold Oper.wp execOp
  simp only [ho, resolve, invoke, builtin, Sem.run_bind, Sem.run_pure, Result.andThen_ok, List.map_toArray, List.map_cons, List.map_nil, hs, hx, hr]
  exact hK _ _ h
/-- what is in either -/
def uniL : List Int → List Int → List Int
  | [], ys => ys
  | x :: s, [] => x :: s
  | x :: s, y :: t => if x < y then x :: uniL s (y :: t) else if y < x then y :: uniL (x :: s) t else x :: uniL s t
theorem uniL_nil (xs : List Int) : uniL xs [] = xs := by cases xs <;> simp [uniL]
theorem made_own (n : Nat) (hn : n ≤ 1000000) : ∃ C : Array Value, (∀ w : World, (Instr.makeSlice 38 (.int .i64 0) (.int .i64 (n : Int))).run Try.prog w = .ok (.slice (some ⟨w.heap.size, 0, none⟩) 0 n) (w.alloc (.cells C 3))) ∧ ∀ w : World, St w (w.alloc (.cells C 3)) (.slice (some ⟨w.heap.size, 0, none⟩) 0 n) [] := by
  obtain ⟨i0, hi, hz0, hz1, hz2⟩ := info_parts info3p
  refine ⟨madeCells (Value.int .i64 0).cells (n * i0.size), fun w => ?_, fun w => ⟨?_, (Below.refl _ _).alloc (Nat.le_refl _) _⟩⟩
  · have h := run_make (P := Try.prog) w 38 3 i0 (.int .i64 0) Try.underlying38 hi hz0 .i64 .i64 0 n (Int.le_refl _) (by omega) (by rw [hz2]; omega) (by omega)
    simpa using h
  · have h := World.ownsRow_made (base := w.heap.size) (e := 3) (size := 1) w (madeCells (Value.int .i64 0).cells (n * i0.size)) n (Nat.le_refl _) (by unfold maxLen; omega) (by rw [size_madeCells, hz1])
    exact h
end Go.Proofs.Ytmhicllhjiglkaa
