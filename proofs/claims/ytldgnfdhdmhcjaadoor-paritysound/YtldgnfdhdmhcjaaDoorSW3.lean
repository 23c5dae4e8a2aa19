import Derived.Test.YtldgnfdhdmhcjaaDoorSW1
import Derived.Test.YtldgnfdhdmhcjaaDoorSdM
namespace Go.Proofs.YtldgnfdhdmhcjaaDoor
open Go.RowKit
theorem GlobS.drew {w : World} (h : GlobS w) : GlobS w.drew := h
theorem GlobS.drewN {w : World} (h : GlobS w) (n : Nat) : GlobS (w.drewN n) := fun k hk => h k hk
theorem GlobS.alloc {w : World} (h : GlobS w) (o : Obj) : GlobS (w.alloc o) := h.keep ((Below.refl _ _).alloc (Nat.le_refl _) o)
theorem bel_drewN {B : Nat} {a w : World} (h : Below B a w) (n : Nat) : Below B a (w.drewN n) := ⟨h.os, h.tape, h.output, h.size, h.block⟩
theorem low_orsg (s x : Int) : low (bits .or .i64 s (up (sg x))) = low s ||| sg x := by rw [low_or, low_up]

set_option maxHeartbeats 4000000 in
theorem signsound_walk (op x y s t : Int) (w : World) (G : GlobS w) (hx : i64 x) (hy : i64 y) : Calls Tryd.prog 5 #[.int .i64 op, .agg #[.int .i64 x, .int .i64 y], .agg #[.int .i64 s, .int .i64 t]] w fun e w' => e = .returned (.bool true) ∧ Below w.heap.size w w' := by
  have HX := hx
  unfold i64 at hx
  obtain ⟨hx1, hx2⟩ := hx
  have hlu : ∀ z, low (up z) = z := low_up
  have l1 := low_orsg s x
  have l2 := low_orsg t y
  have e1 := one2_has (low s) x
  have e2 := one3_has (low s) x HX
  have e3 := br_has (low s) x
  have q2 := snd_any op x y (low s) (low t) HX hy
  by_cases q1 : (arith op x y).2 = true
  · have q3 := q2 q1
    clear q2
    go_enter Tryd.func5, Tryd.ntmps5
    go_wp2
    go_quiet (fail)
    go_wp2
    go_quiet ((go_at_call 17; exact (sofr_any _ _).mono (fun _ _ h => ⟨h.1, _, h.2⟩)))
    go_wp2_with (first
      | (go_at_call 29; refine (arith_ref _ _ _ _ HX hy).mono ?_; rintro e w' ⟨rfl, h⟩; obtain rfl := h.symm)
      | (go_at_call 14; refine (told_any _ (by repeat (first | exact G | apply GlobS.drewN | apply GlobS.drew | apply GlobS.alloc))).mono ?_; rintro e w' ⟨rfl, h⟩; obtain rfl := h.symm)
      | (go_at_call 25; refine (stwo_any _ _ _ _ (by repeat (first | exact G | apply GlobS.drewN | apply GlobS.drew | apply GlobS.alloc))).mono ?_; rintro e w' ⟨rfl, h⟩; obtain rfl := h.symm)
      | (go_at_call 18; refine (shas_any _ _ _).mono ?_; rintro e w' ⟨rfl, h⟩; obtain rfl := h.symm)
      | (go_at_call 23; refine (sone_any _ _ _).mono ?_; rintro e w' ⟨rfl, h⟩; obtain rfl := h.symm)
      | (go_at_call 27; refine (sbranch_any _ _ _).mono ?_; rintro e w' ⟨rfl, h⟩; obtain rfl := h.symm))
    all_goals (go_ret; exact ⟨rfl, bel_drewN ((((Below.refl _ _).alloc (Nat.le_refl _) _).alloc (by simp) _)) _⟩)
  · clear q2
    go_enter Tryd.func5, Tryd.ntmps5
    go_wp2
    go_quiet (fail)
    go_wp2
    go_quiet ((go_at_call 17; exact (sofr_any _ _).mono (fun _ _ h => ⟨h.1, _, h.2⟩)))
    go_wp2_with (first
      | (go_at_call 29; refine (arith_ref _ _ _ _ HX hy).mono ?_; rintro e w' ⟨rfl, h⟩; obtain rfl := h.symm)
      | (go_at_call 14; refine (told_any _ (by repeat (first | exact G | apply GlobS.drewN | apply GlobS.drew | apply GlobS.alloc))).mono ?_; rintro e w' ⟨rfl, h⟩; obtain rfl := h.symm)
      | (go_at_call 25; refine (stwo_any _ _ _ _ (by repeat (first | exact G | apply GlobS.drewN | apply GlobS.drew | apply GlobS.alloc))).mono ?_; rintro e w' ⟨rfl, h⟩; obtain rfl := h.symm)
      | (go_at_call 18; refine (shas_any _ _ _).mono ?_; rintro e w' ⟨rfl, h⟩; obtain rfl := h.symm)
      | (go_at_call 23; refine (sone_any _ _ _).mono ?_; rintro e w' ⟨rfl, h⟩; obtain rfl := h.symm)
      | (go_at_call 27; refine (sbranch_any _ _ _).mono ?_; rintro e w' ⟨rfl, h⟩; obtain rfl := h.symm))
    all_goals (go_ret; exact ⟨rfl, bel_drewN ((((Below.refl _ _).alloc (Nat.le_refl _) _).alloc (by simp) _)) _⟩)

set_option maxHeartbeats 4000000 in
theorem signrises_walk (op a b m : Int) (w : World) (G : GlobS w) : Calls Tryd.prog 7 #[.int .i64 op, .agg #[.int .i64 a, .int .i64 b], .int .i64 m] w fun e w' => e = .returned (.bool true) ∧ Below w.heap.size w w' := by
  have hlu : ∀ z, low (up z) = z := low_up
  have r3 := two_join1 op (low a) (low m) (low b)
  have r4 := two_join2 op (low a) (low b) (low m)
  have r1 := within_or (twoS op (low a) (low b)) (twoS op (low m) (low b))
  have r2 := within_or (twoS op (low a) (low b)) (twoS op (low a) (low m))
  have r5 := one_join op (low a) (low m)
  have r6 := within_or (oneS op (low a)) (oneS op (low m))
  have r7 := br_both (low a)
  go_enter Tryd.func7, Tryd.ntmps7
  go_wp2
  go_quiet (fail)
  go_wp2_with (first
      | (go_at_call 14; refine (told_any _ (by repeat (first | exact G | apply GlobS.drewN | apply GlobS.drew | apply GlobS.alloc))).mono ?_; rintro e w' ⟨rfl, h⟩; obtain rfl := h.symm)
      | (go_at_call 25; refine (stwo_any _ _ _ _ (by repeat (first | exact G | apply GlobS.drewN | apply GlobS.drew | apply GlobS.alloc))).mono ?_; rintro e w' ⟨rfl, h⟩; obtain rfl := h.symm)
      | (go_at_call 20; refine (sjoin_any _ _ _).mono ?_; rintro e w' ⟨rfl, h⟩; obtain rfl := h.symm)
      | (go_at_call 22; refine (swithin_any _ _ _).mono ?_; rintro e w' ⟨rfl, h⟩; obtain rfl := h.symm)
      | (go_at_call 13; refine (sbits_any _ _).mono ?_; rintro e w' ⟨rfl, h⟩; obtain rfl := h.symm)
      | (go_at_call 23; refine (sone_any _ _ _).mono ?_; rintro e w' ⟨rfl, h⟩; obtain rfl := h.symm)
      | (go_at_call 27; refine (sbranch_any _ _ _).mono ?_; rintro e w' ⟨rfl, h⟩; obtain rfl := h.symm))
  all_goals (go_ret; exact ⟨rfl, bel_drewN ((Below.refl _ _).alloc (Nat.le_refl _) _) _⟩)
end Go.Proofs.YtldgnfdhdmhcjaaDoor
