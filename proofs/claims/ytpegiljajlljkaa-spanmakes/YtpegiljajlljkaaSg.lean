import Derived.Test.YtpegiljajlljkaaSe
import Derived.LoopTactic
import Derived.WalkLawsBesides
import Derived.OwnWalk
namespace Go.Proofs.Ytpegiljajlljkaa
open Go.RowKit
/-- numbers, as cells -/
def I64 (ps : List Int) : List Value := ps.map fun n => .int .i64 n
theorem i64_one (ps : List Int) : ∀ u ∈ I64 ps, u.oneCell' = true := by
  intro u hu; simp [I64] at hu; obtain ⟨x, _, rfl⟩ := hu; rfl
/-- the least of a number and those of a row -/
def lst (m : Int) : List Int → Int
  | [] => m
  | x :: l => lst (min m x) l
def grt (m : Int) : List Int → Int
  | [] => m
  | x :: l => grt (max m x) l
theorem lst_app (m x : Int) (l : List Int) : lst m (l ++ [x]) = min (lst m l) x := by
  induction l generalizing m with
  | nil => rfl
  | cons y l ih => exact ih (min m y)
theorem grt_app (m x : Int) (l : List Int) : grt m (l ++ [x]) = max (grt m l) x := by
  induction l generalizing m with
  | nil => rfl
  | cons y l ih => exact ih (max m y)
/-- a row of numbers at a block's head -/
def RowN (w : World) (g : Nat) (ps : List Int) : Prop := ∀ j n, ps[j]? = some n → w.cell? ⟨g, j, none⟩ = some (.int .i64 n)
set_option maxHeartbeats 4000000 in
theorem min_any (g c : Nat) (n : Int) (ps : List Int) (w : World) (h : RowN w g (n :: ps)) (hl : ps.length ≤ 100) : Calls Try.prog 56 #[.slice (some ⟨g, 0, none⟩) (ps.length + 1) c] w fun e w' => e = .returned (.int .i64 (lst n ps)) ∧ w' = w := by
  have h0 : w.cell? ⟨g, 0, none⟩ = some (.int .i64 n) := h 0 n rfl
  have HH : Hid (RowN w g (n :: ps)) := h
  clear h
  have l1 : (ps.length : Int) + 1 ≤ 101 := by omega
  have l2 : (0 : Int) ≤ ps.length := by omega
  go_enter Try.func56, Try.ntmps56
  go_wp2
  go_loop [3, 4] (fun m i => ∃ k : Nat, k ≤ ps.length ∧ i = .int .i64 (k + 1) ∧ m = .int .i64 (lst n (ps.take k))) (fun _ i => ps.length + 1 - (intOf i).toNat)
  case atStart => exact ⟨0, Nat.zero_le _, rfl, rfl⟩
  case round =>
    obtain ⟨k, hk, rfl, rfl⟩ := hrel
    by_cases hlt : k < ps.length
    · have k1 : (k : Int) < ps.length := by omega
      have hx : w.cell? ⟨g, k + 1, none⟩ = some (.int .i64 (ps[k]'hlt)) := HH.out (k + 1) _ (by simp [hlt])
      have HT : Hid (lst n (ps.take (k + 1)) = min (lst n (ps.take k)) (ps[k]'hlt)) := by unfold Hid; rw [List.take_succ_eq_append_getElem hlt, lst_app]
      generalize ps[k]'hlt = y at *
      go_wp2
      go_round
      case rel =>
        refine ⟨k + 1, by omega, by push_cast; rfl, ?_⟩
        rw [HT.out]
        congr 1
        split <;> omega
      case measure => simp [intOf]; omega
    · go_wp2
      go_ret
      obtain rfl : k = ps.length := by omega
      rw [List.take_length]
      exact ⟨rfl, rfl⟩
set_option maxHeartbeats 4000000 in
theorem max_any (g c : Nat) (n : Int) (ps : List Int) (w : World) (h : RowN w g (n :: ps)) (hl : ps.length ≤ 100) : Calls Try.prog 57 #[.slice (some ⟨g, 0, none⟩) (ps.length + 1) c] w fun e w' => e = .returned (.int .i64 (grt n ps)) ∧ w' = w := by
  have h0 : w.cell? ⟨g, 0, none⟩ = some (.int .i64 n) := h 0 n rfl
  have HH : Hid (RowN w g (n :: ps)) := h
  clear h
  have l1 : (ps.length : Int) + 1 ≤ 101 := by omega
  have l2 : (0 : Int) ≤ ps.length := by omega
  go_enter Try.func57, Try.ntmps57
  go_wp2
  go_loop [3, 4] (fun m i => ∃ k : Nat, k ≤ ps.length ∧ i = .int .i64 (k + 1) ∧ m = .int .i64 (grt n (ps.take k))) (fun _ i => ps.length + 1 - (intOf i).toNat)
  case atStart => exact ⟨0, Nat.zero_le _, rfl, rfl⟩
  case round =>
    obtain ⟨k, hk, rfl, rfl⟩ := hrel
    by_cases hlt : k < ps.length
    · have k1 : (k : Int) < ps.length := by omega
      have hx : w.cell? ⟨g, k + 1, none⟩ = some (.int .i64 (ps[k]'hlt)) := HH.out (k + 1) _ (by simp [hlt])
      have HT : Hid (grt n (ps.take (k + 1)) = max (grt n (ps.take k)) (ps[k]'hlt)) := by unfold Hid; rw [List.take_succ_eq_append_getElem hlt, grt_app]
      generalize ps[k]'hlt = y at *
      go_wp2
      go_round
      case rel =>
        refine ⟨k + 1, by omega, by push_cast; rfl, ?_⟩
        rw [HT.out]
        congr 1
        split <;> omega
      case measure => simp [intOf]; omega
    · go_wp2
      go_ret
      obtain rfl : k = ps.length := by omega
      rw [List.take_length]
      exact ⟨rfl, rfl⟩
end Go.Proofs.Ytpegiljajlljkaa
