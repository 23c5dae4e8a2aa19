import Derived.Test.YtldgnfdhdmhcjaaDoorSg
import Derived.LoopTactic
import Derived.Deep.QuietTactic
import Derived.BigQuiet
namespace Go.Proofs.YtldgnfdhdmhcjaaDoor
open Go.RowKit

/-- the table of pairs: by 9 * (op - 4) + 3 * i + j -/
def stab : List (BitVec 3) := [7, 1, 7, 1, 2, 4, 7, 4, 5, 7, 1, 5, 5, 2, 1, 5, 4, 7, 7, 2, 7, 2, 2, 2, 7, 2, 7, 7, 0, 3, 2, 0, 2, 3, 0, 6, 3, 0, 3, 2, 0, 2, 6, 0, 6, 1, 2, 6, 2, 2, 2, 6, 2, 6, 6, 1, 1, 1, 2, 4, 1, 4, 6, 6, 4, 4, 2, 2, 4, 2, 2, 6, 6, 2, 2, 2, 4, 2, 2, 2, 6]
def stb (n : Nat) : BitVec 3 := stab.getD n 0
/-- what the variable gives a walk -/
def GlobS (w : World) : Prop := ∀ n, n < 81 → w.cell? ⟨0, n, none⟩ = some (.int .i64 (up (stb n)))
/-- one pair -/
def sPair (o : Nat) (x y : BitVec 3) (i j : Nat) : BitVec 3 := if bt x i && bt y j then stb (o * 9 + (3 * i + j)) else 0
def sRow (o : Nat) (x y : BitVec 3) (i : Nat) : Nat → BitVec 3
  | 0 => 0
  | j + 1 => sRow o x y i j ||| sPair o x y i j
def sAll (o : Nat) (x y : BitVec 3) : Nat → BitVec 3
  | 0 => 0
  | i + 1 => sAll o x y i ||| sRow o x y i 3
def twoS (op : Int) (x y : BitVec 3) : BitVec 3 := if 4 ≤ op ∧ op ≤ 12 then sAll (op - 4).toNat x y 3 else 0

theorem stwo_no (op a b : Int) (w : World) (h : op < 4 ∨ 12 < op) : Calls Tryd.prog 25 #[.int .i64 op, .int .i64 a, .int .i64 b] w fun e w' => e = .returned (.int .i64 (up (twoS op (low a) (low b)))) ∧ w' = w := by
  have h2 : ¬ (4 ≤ op ∧ op ≤ 12) := by omega
  rcases h with h | h
  · go_enter Tryd.func25, Tryd.ntmps25
    go_wp2
    go_ret
    exact ⟨ret_int (by simp [twoS, h2]; rfl), rfl⟩
  · have h3 : ¬ op < 4 := by omega
    go_enter Tryd.func25, Tryd.ntmps25
    go_wp2
    go_ret
    exact ⟨ret_int (by simp [twoS, h2]; rfl), rfl⟩
set_option maxHeartbeats 4000000 in
theorem stwo_in (o : Nat) (ho : o < 9) (a b : Int) (w : World) (G : GlobS w) : Calls Tryd.prog 25 #[.int .i64 ((o : Int) + 4), .int .i64 a, .int .i64 b] w fun e w' => e = .returned (.int .i64 (up (sAll o (low a) (low b) 3))) ∧ w' = w := by
  go_enter Tryd.func25, Tryd.ntmps25
  go_wp2
  go_loop [7, 16] (fun s i => ∃ k : Nat, k ≤ 3 ∧ i = .int .i64 k ∧ s = .int .i64 (up (sAll o (low a) (low b) k))) (fun _ i => 3 - (intOf i).toNat)
  case atStart => exact ⟨0, Nat.zero_le _, rfl, rfl⟩
  case round =>
    obtain ⟨k, hk, rfl, rfl⟩ := hrel
    by_cases hlt : k < 3
    · go_wp2
      go_loop [7, 19] (fun s i => ∃ j : Nat, j ≤ 3 ∧ i = .int .i64 j ∧ s = .int .i64 (up (sAll o (low a) (low b) k ||| sRow o (low a) (low b) k j))) (fun _ i => 3 - (intOf i).toNat)
      case atStart => exact ⟨0, Nat.zero_le _, rfl, by simp [sRow]⟩
      case round =>
        obtain ⟨j, hj, rfl, rfl⟩ := hrel
        by_cases hlt2 : j < 3
        · have hA := low_shr a k hlt
          have hB := low_shr b j hlt2
          have HP : Hid (sRow o (low a) (low b) k (j + 1) = sRow o (low a) (low b) k j ||| sPair o (low a) (low b) k j) := rfl
          by_cases hx : bt (low a) k = true
          · rw [if_pos hx] at hA
            by_cases hy : bt (low b) j = true
            · rw [if_pos hy] at hB
              have hc : w.cell? ⟨0, o * 9 + (3 * k + j), none⟩ = some (.int .i64 (up (stb (o * 9 + (3 * k + j))))) := G _ (by omega)
              go_wp2
              go_round
              case rel => exact ⟨j + 1, by omega, by go_num, by rw [or_up, HP.out, ← BitVec.or_assoc]; simp [sPair, hx, hy]⟩
              case measure => simp [intOf]; omega
            · rw [if_neg hy] at hB
              go_wp2
              go_round
              case rel => exact ⟨j + 1, by omega, by go_num, by rw [HP.out]; simp [sPair, hx, hy]⟩
              case measure => simp [intOf]; omega
          · rw [if_neg hx] at hA
            go_wp2
            go_round
            case rel => exact ⟨j + 1, by omega, by go_num, by rw [HP.out]; simp [sPair, hx]⟩
            case measure => simp [intOf]; omega
        · go_wp2
          go_round
          case rel =>
            obtain rfl : j = 3 := by omega
            exact ⟨k + 1, by omega, by go_num, rfl⟩
          case measure => simp [intOf]; omega
    · go_wp2
      go_ret
      obtain rfl : k = 3 := by omega
      exact ⟨rfl, rfl⟩
theorem stwo_any (op a b : Int) (w : World) (G : GlobS w) : Calls Tryd.prog 25 #[.int .i64 op, .int .i64 a, .int .i64 b] w fun e w' => e = .returned (.int .i64 (up (twoS op (low a) (low b)))) ∧ w' = w := by
  by_cases h : 4 ≤ op ∧ op ≤ 12
  · obtain ⟨o, rfl⟩ : ∃ o : Nat, op = (o : Int) + 4 := ⟨(op - 4).toNat, by omega⟩
    refine (stwo_in o (by omega) a b w G).mono ?_
    rintro e w' ⟨rfl, rfl⟩
    exact ⟨ret_int (by rw [twoS, if_pos h]; congr 2; omega), rfl⟩
  · exact stwo_no op a b w (by omega)
end Go.Proofs.YtldgnfdhdmhcjaaDoor
