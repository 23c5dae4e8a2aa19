import Derived.Test.YtldgnfdhdmhcjaaDoorSpM
namespace Go.Proofs.YtldgnfdhdmhcjaaDoor
open Go.RowKit

theorem GlobS.lt {w : World} (h : GlobS w) : 0 < w.heap.size := World.block_lt_of_cell? w _ (h 0 (by omega))
theorem GlobS.keep {w w' : World} (h : GlobS w) (hb : Below w.heap.size w w') : GlobS w' := fun n hn => (hb.cell (p := ⟨0, n, none⟩) h.lt).trans (h n hn)
theorem within_eq (x y : BitVec 3) : (up (x ||| y) == up y) = withinS x y := by rw [up_beq]; revert x y; decide

set_option maxHeartbeats 4000000 in
theorem signsets_walk (a b n : Int) (w : World) (G : GlobS w) : Calls Tryd.prog 3 #[.int .i64 a, .int .i64 b, .int .i64 n] w fun e w' => e = .returned (.bool true) ∧ Below w.heap.size w w' := by
  have hO : bits .or .i64 (up (low a)) (up (low b)) = up (low a ||| low b) := or_up _ _
  have hA : bits .and .i64 (up (low a)) (up (low b)) = up (low a &&& low b) := and_upup _ _
  have hL : low (up (low a)) = low a := low_up _
  have hW := within_eq (low a) (low b)
  by_cases h1 : 1 ≤ a <;> by_cases h2 : a ≤ 7 <;>
  · go_enter Tryd.func3, Tryd.ntmps3
    go_wp2_with (first
      | (go_at_call 13; refine (sbits_any _ _).mono ?_; rintro e w' ⟨rfl, rfl⟩)
      | (go_at_call 14; refine (told_any _ G).mono ?_; rintro e w' ⟨rfl, rfl⟩)
      | (go_at_call 15; refine (sright_any _ _).mono ?_; rintro e w' ⟨rfl, rfl⟩)
      | (go_at_call 16; refine (sof_any _ _).mono ?_; rintro e w' ⟨rfl, rfl⟩)
      | (go_at_call 17; refine (sofr_any _ _).mono ?_; rintro e w' ⟨rfl, rfl⟩)
      | (go_at_call 18; refine (shas_any _ _ _).mono ?_; rintro e w' ⟨rfl, rfl⟩)
      | (go_at_call 19; refine (shasr_any _ _ _).mono ?_; rintro e w' ⟨rfl, rfl⟩)
      | (go_at_call 20; refine (sjoin_any _ _ _).mono ?_; rintro e w' ⟨rfl, rfl⟩)
      | (go_at_call 21; refine (smeet_any _ _ _).mono ?_; rintro e w' ⟨rfl, rfl⟩)
      | (go_at_call 22; refine (swithin_any _ _ _).mono ?_; rintro e w' ⟨rfl, rfl⟩))
    all_goals (go_ret; exact ⟨rfl, Below.refl _ _⟩)

set_option maxHeartbeats 4000000 in
theorem signmakes_walk (op a b : Int) (w : World) (G : GlobS w) : Calls Tryd.prog 4 #[.int .i64 op, .int .i64 a, .int .i64 b] w fun e w' => e = .returned (.bool true) ∧ Below w.heap.size w w' := by
  have hN := nall_all op (low a) (low b)
  go_enter Tryd.func4, Tryd.ntmps4
  go_wp2_with (first
      | (go_at_call 14; refine (told_any _ G).mono ?_; rintro e w' ⟨rfl, rfl⟩)
      | (go_at_call 23; refine (sone_any _ _ _).mono ?_; rintro e w' ⟨rfl, rfl⟩)
      | (go_at_call 24; refine (srone_any _ _ _).mono ?_; rintro e w1 ⟨rfl, HB1⟩)
      | (go_at_call 25; refine (stwo_any _ _ _ _ (G.keep HB1)).mono ?_; rintro e w' ⟨rfl, rfl⟩)
      | (go_at_call 26; refine (srtwo_any _ _ _ _).mono ?_; rintro e w2 ⟨rfl, HB2⟩)
      | (go_at_call 27; refine (sbranch_any _ _ _).mono ?_; rintro e w' ⟨rfl, rfl⟩)
      | (go_at_call 28; refine (sbranchr_any _ _ _).mono ?_; rintro e w' ⟨rfl, rfl⟩))
  go_ret
  exact ⟨rfl, HB1.trans (HB2.mono HB1.size)⟩
end Go.Proofs.YtldgnfdhdmhcjaaDoor
