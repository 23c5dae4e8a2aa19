import Derived.Test.YtldgnfdhdmhcjaaDoorSp3
import Derived.Test.YtldgnfdhdmhcjaaDoorSp4
namespace Go.Proofs.YtldgnfdhdmhcjaaDoor
open Go.RowKit

def oCell (op : Int) (x : BitVec 3) (i : Nat) : BitVec 3 := (if hasS x (num i) && (op == 2) then sg (num i) else 0) ||| (if hasS x (num i) && (op == 3) then sg (wrap64 (-(num i))) else 0)
def nOne (op : Int) (x : BitVec 3) : Nat → BitVec 3
  | 0 => 0
  | i + 1 => nOne op x i ||| oCell op x i

theorem none_2 : ∀ x, nOne 2 x 16 = oneS 2 x := by decide +kernel
theorem none_3 : ∀ x, nOne 3 x 16 = oneS 3 x := by decide +kernel
theorem none_all (op : Int) (x : BitVec 3) : nOne op x 16 = oneS op x := by
  by_cases h2 : op = 2
  · subst h2; exact none_2 x
  by_cases h3 : op = 3
  · subst h3; exact none_3 x
  have hc : ∀ i, oCell op x i = 0 := fun i => by simp [oCell, h2, h3]
  have : ∀ n, nOne op x n = 0 := by
    intro n
    induction n with
    | zero => rfl
    | succ n ih => simp [nOne, ih, hc]
  rw [this, oneS, if_neg h2, if_neg h3]

set_option maxRecDepth 100000 in
theorem nall4 : ∀ x y, nAll 4 x y 16 = twoS 4 x y := by decide +kernel
set_option maxRecDepth 100000 in
theorem nall5 : ∀ x y, nAll 5 x y 16 = twoS 5 x y := by decide +kernel
set_option maxRecDepth 100000 in
theorem nall6 : ∀ x y, nAll 6 x y 16 = twoS 6 x y := by decide +kernel
set_option maxRecDepth 100000 in
theorem nall7 : ∀ x y, nAll 7 x y 16 = twoS 7 x y := by decide +kernel
set_option maxRecDepth 100000 in
theorem nall8 : ∀ x y, nAll 8 x y 16 = twoS 8 x y := by decide +kernel
set_option maxRecDepth 100000 in
theorem nall9 : ∀ x y, nAll 9 x y 16 = twoS 9 x y := by decide +kernel
set_option maxRecDepth 100000 in
theorem nall10 : ∀ x y, nAll 10 x y 16 = twoS 10 x y := by decide +kernel
set_option maxRecDepth 100000 in
theorem nall11 : ∀ x y, nAll 11 x y 16 = twoS 11 x y := by decide +kernel
set_option maxRecDepth 100000 in
theorem nall12 : ∀ x y, nAll 12 x y 16 = twoS 12 x y := by decide +kernel
theorem nall_no (op : Int) (x y : BitVec 3) (h : ¬ (4 ≤ op ∧ op ≤ 12)) : nAll op x y 16 = 0 := by
  have ha : ∀ a b, arith op a b = (0, false) := fun a b => by
    unfold arith
    rw [if_neg (by omega), if_neg (by omega), if_neg (by omega), if_neg (by omega), if_neg (by omega), if_neg (by omega), if_neg (by omega), if_neg (by omega), if_neg (by omega)]
  have hc : ∀ i k, sCell op x y i k = 0 := fun i k => by simp [sCell, ha]
  have hr : ∀ i n, nRow op x y i n = 0 := by
    intro i n
    induction n with
    | zero => rfl
    | succ n ih => simp [nRow, ih, hc]
  have : ∀ n, nAll op x y n = 0 := by
    intro n
    induction n with
    | zero => rfl
    | succ n ih => simp [nAll, ih, hr]
  exact this 16
theorem op_cases (op : Int) (h : 4 ≤ op ∧ op ≤ 12) : op = 4 ∨ op = 5 ∨ op = 6 ∨ op = 7 ∨ op = 8 ∨ op = 9 ∨ op = 10 ∨ op = 11 ∨ op = 12 := by omega
theorem nall_all (op : Int) (x y : BitVec 3) : nAll op x y 16 = twoS op x y := by
  by_cases h : 4 ≤ op ∧ op ≤ 12
  · rcases op_cases op h with rfl | rfl | rfl | rfl | rfl | rfl | rfl | rfl | rfl
    · exact nall4 x y
    · exact nall5 x y
    · exact nall6 x y
    · exact nall7 x y
    · exact nall8 x y
    · exact nall9 x y
    · exact nall10 x y
    · exact nall11 x y
    · exact nall12 x y
  · rw [nall_no op x y h, twoS, if_neg h]
theorem two_zero1 (op : Int) (y : BitVec 3) : twoS op 0 y = 0 := by
  unfold twoS
  split
  · generalize (op - 4).toNat = o
    simp [sAll, sRow, sPair, bt]
  · rfl
theorem two_zero2 (op : Int) (x : BitVec 3) : twoS op x 0 = 0 := by
  unfold twoS
  split
  · generalize (op - 4).toNat = o
    simp [sAll, sRow, sPair, bt]
  · rfl
set_option maxHeartbeats 4000000 in
theorem srone_any (op a : Int) (w : World) : Calls Tryd.prog 24 #[.int .i64 op, .int .i64 a] w fun e w' => e = .returned (.int .i64 (up (oneS op (low a)))) ∧ Below w.heap.size w w' := by
  go_enter Tryd.func24, Tryd.ntmps24
  go_wp2_with (go_at_call 30; refine (nums_ns _).mono ?_; rintro e w1 ⟨rfl, HN0⟩)
  have HN : Hid (Ns w w.heap.size w1) := HN0
  clear HN0
  generalize w.heap.size = B at HN ⊢
  go_loopw [5, 7] (fun s i wr => ∃ k : Nat, k ≤ 16 ∧ i = .int .i64 k ∧ s = .int .i64 (up (nOne op (low a) k)) ∧ Hid (Ns w B wr)) (fun _ i _ => 16 - (intOf i).toNat)
  case atStart => exact ⟨0, Nat.zero_le _, rfl, rfl, HN⟩
  case round =>
    obtain ⟨k, hk, rfl, rfl, HK⟩ := hrel
    by_cases hlt : k < 16
    · have z1 : (0 : Int) ≤ (k : Int) := by omega
      have z3 : (k : Int) < 16 := by omega
      have c1 := HK.out.nl k hlt
      obtain ⟨i1, i2⟩ := num_i64 k hlt
      have HP : Hid (nOne op (low a) (k + 1) = nOne op (low a) k ||| oCell op (low a) k) := rfl
      have HC : Hid (oCell op (low a) k = (if hasS (low a) (num k) && (op == 2) then sg (num k) else 0) ||| (if hasS (low a) (num k) && (op == 3) then sg (wrap64 (-(num k))) else 0)) := rfl
      by_cases q1 : hasS (low a) (num k) = true
      · by_cases h2 : op = 2
        · subst h2
          go_wp2_with (first | (go_at_call 19; refine (shasr_any _ _ _).mono ?_; rintro e w' ⟨rfl, rfl⟩) | (go_at_call 17; refine (sofr_any _ _).mono ?_; rintro e w' ⟨rfl, rfl⟩))
          go_roundw
          case rel => exact ⟨k + 1, by omega, by go_num, by rw [or_up, HP.out, HC.out, q1]; simp, HK⟩
          case measure => simp [intOf]; omega
        by_cases h3 : op = 3
        · subst h3
          go_wp2_with (first | (go_at_call 19; refine (shasr_any _ _ _).mono ?_; rintro e w' ⟨rfl, rfl⟩) | (go_at_call 17; refine (sofr_any _ _).mono ?_; rintro e w' ⟨rfl, rfl⟩))
          go_roundw
          case rel => exact ⟨k + 1, by omega, by go_num, by rw [or_up, HP.out, HC.out, q1]; simp, HK⟩
          case measure => simp [intOf]; omega
        go_wp2_with (first | (go_at_call 19; refine (shasr_any _ _ _).mono ?_; rintro e w' ⟨rfl, rfl⟩) | (go_at_call 17; refine (sofr_any _ _).mono ?_; rintro e w' ⟨rfl, rfl⟩))
        go_roundw
        case rel => exact ⟨k + 1, by omega, by go_num, by rw [HP.out, HC.out, q1]; simp [h2, h3], HK⟩
        case measure => simp [intOf]; omega
      · go_wp2_with (first | (go_at_call 19; refine (shasr_any _ _ _).mono ?_; rintro e w' ⟨rfl, rfl⟩) | (go_at_call 17; refine (sofr_any _ _).mono ?_; rintro e w' ⟨rfl, rfl⟩))
        go_roundw
        case rel => exact ⟨k + 1, by omega, by go_num, by rw [HP.out, HC.out, Bool.eq_false_iff.2 q1]; simp, HK⟩
        case measure => simp [intOf]; omega
    · go_wp2
      go_ret
      obtain rfl : k = 16 := by omega
      exact ⟨ret_int (by rw [none_all]), HK.out.bel⟩
end Go.Proofs.YtldgnfdhdmhcjaaDoor
