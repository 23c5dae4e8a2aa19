import Derived.Test.YtcmmjkkpjclfgaaDoorText
import Derived.Test.YtcmmjkkpjclfgaaDoorLine
namespace Go.Proofs.YtcmmjkkpjclfgaaDoor
open Go.RowKit Go.Lib

set_option maxRecDepth 100000 in
set_option maxHeartbeats 1000000 in
theorem err_in (k : Int) (h : 0 ≤ k ∧ k < 22) (w : World) : Calls Tryd.prog 74 #[.int .i64 k] w fun e w' => e = .returned (.string ⟨(nameL k).toArray⟩) ∧ w = w' := by
  rcases cases22 h with rfl | rfl | rfl | rfl | rfl | rfl | rfl | rfl | rfl | rfl | rfl | rfl | rfl | rfl | rfl | rfl | rfl | rfl | rfl | rfl | rfl | rfl
  all_goals
    clear h
    go_enter Tryd.func74, Tryd.ntmps74
    go_wp2
    go_ret
    exact ⟨rfl, rfl⟩
set_option maxRecDepth 100000 in
set_option maxHeartbeats 1000000 in
theorem err_out (k : Int) (h : ¬ (0 ≤ k ∧ k < 22)) (w : World) : Calls Tryd.prog 74 #[.int .i64 k] w fun e w' => e = .returned (.string ⟨unknownL.toArray⟩) ∧ w = w' := by
  have H : ∀ j : Int, 0 ≤ j → j < 22 → (k == j) = false := by intro j h1 h2; simp; omega
  have e0 := H 0 (by omega) (by omega)
  have e1 := H 1 (by omega) (by omega)
  have e2 := H 2 (by omega) (by omega)
  have e3 := H 3 (by omega) (by omega)
  have e4 := H 4 (by omega) (by omega)
  have e5 := H 5 (by omega) (by omega)
  have e6 := H 6 (by omega) (by omega)
  have e7 := H 7 (by omega) (by omega)
  have e8 := H 8 (by omega) (by omega)
  have e9 := H 9 (by omega) (by omega)
  have e10 := H 10 (by omega) (by omega)
  have e11 := H 11 (by omega) (by omega)
  have e12 := H 12 (by omega) (by omega)
  have e13 := H 13 (by omega) (by omega)
  have e14 := H 14 (by omega) (by omega)
  have e15 := H 15 (by omega) (by omega)
  have e16 := H 16 (by omega) (by omega)
  have e17 := H 17 (by omega) (by omega)
  have e18 := H 18 (by omega) (by omega)
  have e19 := H 19 (by omega) (by omega)
  have e20 := H 20 (by omega) (by omega)
  have e21 := H 21 (by omega) (by omega)
  clear h H
  go_enter Tryd.func74, Tryd.ntmps74
  go_wp2
  go_ret
  exact ⟨rfl, rfl⟩
theorem err_any (k : Int) (w : World) : Calls Tryd.prog 74 #[.int .i64 k] w fun e w' => e = .returned (.string ⟨(nameL k).toArray⟩) ∧ w = w' := by
  by_cases h : 0 ≤ k ∧ k < 22
  · exact err_in k h w
  · rw [nameL_out h]; exact err_out k h w

theorem nameL_at (n : Nat) (h : n < 22) : (nameTab.map fun l => Value.string ⟨l.toArray⟩)[n]? = some (.string ⟨(nameL n).toArray⟩) := by
  have e : nameL n = nameTab.getD n unknownL := by unfold nameL; rw [if_pos (by omega)]; simp
  rw [e, List.getElem?_map, List.getD_eq_getElem?_getD]
  have hl : n < nameTab.length := h
  rw [List.getElem?_eq_getElem hl]
  rfl
set_option maxRecDepth 100000 in
set_option maxHeartbeats 1000000 in
theorem rname_in (k : Int) (h : 0 ≤ k ∧ k < 22) (w : World) : Calls Tryd.prog 76 #[.int .i64 k] w fun e w' => e = .returned (.string ⟨(nameL k).toArray⟩) ∧ Fr (fun _ => False) w w' := by
  obtain ⟨n, rfl⟩ : ∃ n : Nat, k = n := ⟨k.toNat, by omega⟩
  have h1 : (n : Int) < 22 := h.2
  have h2 : (0 : Int) ≤ n := h.1
  have hc := nameL_at n (by omega)
  simp only [nameTab, List.map] at hc
  clear h
  generalize hA : nameL n = nl at *
  clear hA
  go_enter Tryd.func76, Tryd.ntmps76
  go_wp2
  go_ret
  exact ⟨rfl, (Fr.refl _ _).alloc _⟩
set_option maxRecDepth 100000 in
set_option maxHeartbeats 1000000 in
theorem rname_out (k : Int) (h : ¬ (0 ≤ k ∧ k < 22)) (w : World) : Calls Tryd.prog 76 #[.int .i64 k] w fun e w' => e = .returned (.string ⟨unknownL.toArray⟩) ∧ Fr (fun _ => False) w w' := by
  by_cases h0 : k < 0
  · clear h
    go_enter Tryd.func76, Tryd.ntmps76
    go_wp2
    go_ret
    exact ⟨rfl, (Fr.refl _ _).alloc _⟩
  · have h1 : 22 ≤ k := by omega
    clear h
    go_enter Tryd.func76, Tryd.ntmps76
    go_wp2
    go_ret
    exact ⟨rfl, (Fr.refl _ _).alloc _⟩
theorem rname_any (k : Int) (w : World) : Calls Tryd.prog 76 #[.int .i64 k] w fun e w' => e = .returned (.string ⟨(nameL k).toArray⟩) ∧ Fr (fun _ => False) w w' := by
  by_cases h : 0 ≤ k ∧ k < 22
  · exact rname_in k h w
  · rw [nameL_out h]; exact rname_out k h w
end Go.Proofs.YtcmmjkkpjclfgaaDoor
