import Derived.Test.YtcmmjkkpjclfgaaDoorBase
import Derived.Lib.ItoaMem
import Derived.Lib.ItoaLen
namespace Go.Proofs.YtcmmjkkpjclfgaaDoor
open Go.RowKit Go.Lib

/-- a number that an int holds -/
def In64 (i : Int) : Prop := -9223372036854775808 ≤ i ∧ i ≤ 9223372036854775807
/-- the line of the first k places: numerals with points between -/
def line (ps : List Int) : Nat → List UInt8
  | 0 => []
  | k + 1 => line ps k ++ (if k = 0 then [] else [46]) ++ itoa (ps.getD k 0)
theorem decDigits_pos (u : Nat) : 1 ≤ (decDigits u).length := by rw [decDigits]; split <;> simp
theorem itoa_pos (i : Int) : 1 ≤ (itoa i).length := by
  unfold itoa; split
  · simp
  · exact decDigits_pos _
theorem getD_in {ps : List Int} (h : ∀ p ∈ ps, In64 p) (k : Nat) : In64 (ps.getD k 0) := by
  by_cases hk : k < ps.length
  · rw [List.getD_eq_getElem?_getD, List.getElem?_eq_getElem hk]; exact h _ (List.getElem_mem hk)
  · rw [List.getD_eq_getElem?_getD, List.getElem?_eq_none (by omega)]; simp [In64]
theorem line_len {ps : List Int} (h : ∀ p ∈ ps, In64 p) : ∀ k, (line ps k).length ≤ 22 * k
  | 0 => by simp [line]
  | k + 1 => by
    have := line_len h k
    have h2 := getD_in h k
    have h3 := itoa_length_le _ h2.1 h2.2
    unfold line
    rw [List.length_append, List.length_append]
    split
    · simp only [List.length_nil]; omega
    · simp only [List.length_cons, List.length_nil]; omega
theorem line_pos (ps : List Int) {k : Nat} (h : 0 < k) : 0 < (line ps k).length := by
  cases k with
  | zero => omega
  | succ k => unfold line; rw [List.length_append]; have := itoa_pos (ps.getD k 0); omega

/-- the names of the numbers 0 to 21, as bytes -/
def nameTab : List (List UInt8) := [[111, 107], [97, 114, 103, 117, 109, 101, 110, 116], [115, 104, 111, 114, 116], [102, 111, 114, 109], [114, 97, 110, 103, 101], [116, 97, 103], [110, 97, 109, 101], [115, 121, 109, 98, 111, 108], [108, 97, 98, 101, 108], [114, 101, 103, 105, 115, 116, 101, 114], [97, 114, 105, 116, 121], [115, 105, 122, 101], [115, 104, 97, 112, 101], [102, 97, 99, 116], [101, 100, 103, 101], [98, 117, 100, 103, 101, 116], [111, 112, 101, 110], [116, 119, 105, 99, 101], [99, 108, 97, 115, 104], [105, 109, 112, 108, 105, 101, 100], [119, 111, 114, 100], [110, 111, 110, 101]]
def unknownL : List UInt8 := [117, 110, 107, 110, 111, 119, 110]
def nameL (k : Int) : List UInt8 := if 0 ≤ k ∧ k < 22 then nameTab.getD k.toNat unknownL else unknownL
theorem nameL_out {k : Int} (h : ¬ (0 ≤ k ∧ k < 22)) : nameL k = unknownL := if_neg h
theorem nameL_len (k : Int) : (nameL k).length ≤ 8 := by
  unfold nameL
  split
  · rename_i h
    obtain ⟨n, rfl⟩ : ∃ n : Nat, k = n := ⟨k.toNat, by omega⟩
    have hn : n < 22 := by omega
    have : ∀ n < 22, ((nameTab.getD n unknownL).length ≤ 8) := by decide
    simpa using this n hn
  · decide
theorem cases22 {k : Int} (h : 0 ≤ k ∧ k < 22) : k = 0 ∨ k = 1 ∨ k = 2 ∨ k = 3 ∨ k = 4 ∨ k = 5 ∨ k = 6 ∨ k = 7 ∨ k = 8 ∨ k = 9 ∨ k = 10 ∨ k = 11 ∨ k = 12 ∨ k = 13 ∨ k = 14 ∨ k = 15 ∨ k = 16 ∨ k = 17 ∨ k = 18 ∨ k = 19 ∨ k = 20 ∨ k = 21 := by omega

/-- what stands ahead of the name -/
def headL (ps : List Int) : List UInt8 := if ps.length = 0 then [] else line ps ps.length ++ [32]
def textOf (k : Int) (ps : List Int) : List UInt8 := headL ps ++ nameL k
theorem headL_len {ps : List Int} (h : ∀ p ∈ ps, In64 p) : (headL ps).length ≤ 22 * ps.length + 1 := by
  unfold headL
  have := line_len h ps.length
  split <;> simp <;> omega
/-- a numeral, digit by digit from its end -/
theorem dec_last {n : Nat} (h : n / 10 = 0) : decDigits n = [UInt8.ofNat (48 + n % 10)] := by
  have h' : n < 10 := by omega
  rw [decDigits_one h', Nat.mod_eq_of_lt h']
theorem dec_more {n : Nat} (h : n / 10 ≠ 0) : decDigits n = decDigits (n / 10) ++ [UInt8.ofNat (48 + n % 10)] := by
  rw [decDigits, dif_neg (by omega)]
theorem itoa_minus {n : Int} (h : n < 0) : itoa n = 45 :: decDigits ((-(n + 1)).toNat + 1) := by
  unfold itoa; rw [if_pos h]; congr 2; omega
theorem itoa_plus {n : Int} (h : ¬ n < 0) : itoa n = decDigits n.toNat := by
  unfold itoa; rw [if_neg h]
end Go.Proofs.YtcmmjkkpjclfgaaDoor
