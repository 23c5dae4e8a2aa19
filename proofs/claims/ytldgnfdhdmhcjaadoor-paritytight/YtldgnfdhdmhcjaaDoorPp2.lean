import Derived.Test.YtldgnfdhdmhcjaaDoorPg
import Derived.LoopTactic
import Derived.Deep.QuietTactic
import Derived.BigQuiet
namespace Go.Proofs.YtldgnfdhdmhcjaaDoor
open Go.RowKit

/-- the table of pairs: by 4 * (op - 4) + 2 * i + j -/
def ptab : List (BitVec 3) := [1, 2, 2, 1, 1, 2, 2, 1, 1, 1, 1, 2, 3, 3, 3, 3, 1, 3, 2, 3, 1, 1, 1, 2, 1, 2, 2, 1, 3, 3, 3, 3, 3, 1, 1, 3]
def ptb (n : Nat) : BitVec 3 := ptab.getD n 0
/-- what the variable gives a walk -/
def GlobP (w : World) : Prop := ∀ n, n < 36 → w.cell? ⟨1, n, none⟩ = some (.int .i64 (up (ptb n)))
/-- one pair -/
def pPair (o : Nat) (x y : BitVec 3) (i j : Nat) : BitVec 3 := if bt x i && bt y j then ptb (o * 4 + (2 * i + j)) else 0
def pRow (o : Nat) (x y : BitVec 3) (i : Nat) : Nat → BitVec 3
  | 0 => 0
  | j + 1 => pRow o x y i j ||| pPair o x y i j
def pAll (o : Nat) (x y : BitVec 3) : Nat → BitVec 3
  | 0 => 0
  | i + 1 => pAll o x y i ||| pRow o x y i 2
def twoP (op : Int) (x y : BitVec 3) : BitVec 3 := if 4 ≤ op ∧ op ≤ 12 then pAll (op - 4).toNat x y 2 else 0

theorem ptwo_no (op a b : Int) (w : World) (h : op < 4 ∨ 12 < op) : Calls Tryd.prog 42 #[.int .i64 op, .int .i64 a, .int .i64 b] w fun e w' => e = .returned (.int .i64 (up (twoP op (low a) (low b)))) ∧ w' = w := by
  have h2 : ¬ (4 ≤ op ∧ op ≤ 12) := by omega
  rcases h with h | h
  · go_enter Tryd.func42, Tryd.ntmps42
    go_wp2
    go_ret
    exact ⟨ret_int (by simp [twoP, h2]; rfl), rfl⟩
  · have h3 : ¬ op < 4 := by omega
    go_enter Tryd.func42, Tryd.ntmps42
    go_wp2
    go_ret
    exact ⟨ret_int (by simp [twoP, h2]; rfl), rfl⟩
set_option maxHeartbeats 4000000 in
theorem ptwo_in (o : Nat) (ho : o < 9) (a b : Int) (w : World) (G : GlobP w) : Calls Tryd.prog 42 #[.int .i64 ((o : Int) + 4), .int .i64 a, .int .i64 b] w fun e w' => e = .returned (.int .i64 (up (pAll o (low a) (low b) 2))) ∧ w' = w := by
  go_enter Tryd.func42, Tryd.ntmps42
  go_wp2
  go_loop [7, 16] (fun s i => ∃ k : Nat, k ≤ 2 ∧ i = .int .i64 k ∧ s = .int .i64 (up (pAll o (low a) (low b) k))) (fun _ i => 2 - (intOf i).toNat)
  case atStart => exact ⟨0, Nat.zero_le _, rfl, rfl⟩
  case round =>
    obtain ⟨k, hk, rfl, rfl⟩ := hrel
    by_cases hlt : k < 2
    · go_wp2
      go_loop [7, 19] (fun s i => ∃ j : Nat, j ≤ 2 ∧ i = .int .i64 j ∧ s = .int .i64 (up (pAll o (low a) (low b) k ||| pRow o (low a) (low b) k j))) (fun _ i => 2 - (intOf i).toNat)
      case atStart => exact ⟨0, Nat.zero_le _, rfl, by simp [pRow]⟩
      case round =>
        obtain ⟨j, hj, rfl, rfl⟩ := hrel
        by_cases hlt2 : j < 2
        · have hA := low_shr a k (by omega)
          have hB := low_shr b j (by omega)
          have HP : Hid (pRow o (low a) (low b) k (j + 1) = pRow o (low a) (low b) k j ||| pPair o (low a) (low b) k j) := rfl
          by_cases hx : bt (low a) k = true
          · rw [if_pos hx] at hA
            by_cases hy : bt (low b) j = true
            · rw [if_pos hy] at hB
              have hc : w.cell? ⟨1, o * 4 + (2 * k + j), none⟩ = some (.int .i64 (up (ptb (o * 4 + (2 * k + j))))) := G _ (by omega)
              go_wp2
              go_round
              case rel => exact ⟨j + 1, by omega, by go_num, by rw [or_up, HP.out, ← BitVec.or_assoc]; simp [pPair, hx, hy]⟩
              case measure => simp [intOf]; omega
            · rw [if_neg hy] at hB
              go_wp2
              go_round
              case rel => exact ⟨j + 1, by omega, by go_num, by rw [HP.out]; simp [pPair, hx, hy]⟩
              case measure => simp [intOf]; omega
          · rw [if_neg hx] at hA
            go_wp2
            go_round
            case rel => exact ⟨j + 1, by omega, by go_num, by rw [HP.out]; simp [pPair, hx]⟩
            case measure => simp [intOf]; omega
        · go_wp2
          go_round
          case rel =>
            obtain rfl : j = 2 := by omega
            exact ⟨k + 1, by omega, by go_num, rfl⟩
          case measure => simp [intOf]; omega
    · go_wp2
      go_ret
      obtain rfl : k = 2 := by omega
      exact ⟨rfl, rfl⟩
theorem ptwo_any (op a b : Int) (w : World) (G : GlobP w) : Calls Tryd.prog 42 #[.int .i64 op, .int .i64 a, .int .i64 b] w fun e w' => e = .returned (.int .i64 (up (twoP op (low a) (low b)))) ∧ w' = w := by
  by_cases h : 4 ≤ op ∧ op ≤ 12
  · obtain ⟨o, rfl⟩ : ∃ o : Nat, op = (o : Int) + 4 := ⟨(op - 4).toNat, by omega⟩
    refine (ptwo_in o (by omega) a b w G).mono ?_
    rintro e w' ⟨rfl, rfl⟩
    exact ⟨ret_int (by rw [twoP, if_pos h]; congr 2; omega), rfl⟩
  · exact ptwo_no op a b w (by omega)
end Go.Proofs.YtldgnfdhdmhcjaaDoor
