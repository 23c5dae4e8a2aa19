import Derived.Test.YtldgnfdhdmhcjaaDoorPM
import Derived.Test.YtldgnfdhdmhcjaaDoorSW3
namespace Go.Proofs.YtldgnfdhdmhcjaaDoor
open Go.RowKit
theorem GlobP.lt {w : World} (h : GlobP w) : 1 < w.heap.size := World.block_lt_of_cell? w _ (h 0 (by omega))
theorem GlobP.keep {w w' : World} (h : GlobP w) (hb : Below w.heap.size w w') : GlobP w' := fun n hn => (hb.cell (p := ⟨1, n, none⟩) h.lt).trans (h n hn)
theorem GlobP.drew {w : World} (h : GlobP w) : GlobP w.drew := h
theorem GlobP.drewN {w : World} (h : GlobP w) (n : Nat) : GlobP (w.drewN n) := fun k hk => h k hk
theorem GlobP.alloc {w : World} (h : GlobP w) (o : Obj) : GlobP (w.alloc o) := h.keep ((Below.refl _ _).alloc (Nat.le_refl _) o)
theorem hasp_lp (a n : Int) : hasP (lp a) n = hasP (low a) n := by
  unfold hasP lp pr
  generalize low a = x
  split <;> (revert x; decide)
theorem lp_up (z : BitVec 3) : lp (up z) = z &&& 3#3 := by unfold lp; rw [low_up]; rfl
theorem low_orpr (s x : Int) : low (bits .or .i64 s (up (pr x))) = low s ||| pr x := by rw [low_or, low_up]

set_option maxHeartbeats 4000000 in
theorem psets_walk (a b n : Int) (hn : i64 n) (w : World) (G : GlobP w) : Calls Tryd.prog 8 #[.int .i64 a, .int .i64 b, .int .i64 n] w fun e w' => e = .returned (.bool true) ∧ Below w.heap.size w w' := by
  have h3a := and3 a
  have h3b := and3 b
  have hO : bits .or .i64 (up (lp a)) (up (lp b)) = up (lp a ||| lp b) := or_up _ _
  have hA : bits .and .i64 (up (lp a)) (up (lp b)) = up (lp a &&& lp b) := and_upup _ _
  have hL : low (up (lp a)) = lp a := low_up _
  have hH := hasp_lp a n
  have hW := within_eq (lp a) (lp b)
  by_cases h1 : 1 ≤ a <;> by_cases h2 : a ≤ 3 <;>
  · go_enter Tryd.func8, Tryd.ntmps8
    go_wp2_with (first
      | (go_at_call 31; refine (ptold_any _ G).mono ?_; rintro e w' ⟨rfl, h⟩; obtain rfl := h.symm)
      | (go_at_call 32; refine (pright_any _ _).mono ?_; rintro e w' ⟨rfl, h⟩; obtain rfl := h.symm)
      | (go_at_call 33; refine (pof_any _ _).mono ?_; rintro e w' ⟨rfl, h⟩; obtain rfl := h.symm)
      | (go_at_call 34; refine (pofr_any _ hn _).mono ?_; rintro e w' ⟨rfl, h⟩; obtain rfl := h.symm)
      | (go_at_call 35; refine (phas_any _ _ _).mono ?_; rintro e w' ⟨rfl, h⟩; obtain rfl := h.symm)
      | (go_at_call 36; refine (phasr_any _ _ hn _).mono ?_; rintro e w' ⟨rfl, h⟩; obtain rfl := h.symm)
      | (go_at_call 37; refine (pjoin_any _ _ _).mono ?_; rintro e w' ⟨rfl, h⟩; obtain rfl := h.symm)
      | (go_at_call 38; refine (pmeet_any _ _ _).mono ?_; rintro e w' ⟨rfl, h⟩; obtain rfl := h.symm)
      | (go_at_call 39; refine (pwithin_any _ _ _).mono ?_; rintro e w' ⟨rfl, h⟩; obtain rfl := h.symm))
    all_goals (go_ret; exact ⟨rfl, Below.refl _ _⟩)

set_option maxHeartbeats 4000000 in
theorem pmakes_walk (op a b : Int) (w : World) (G : GlobP w) : Calls Tryd.prog 9 #[.int .i64 op, .int .i64 a, .int .i64 b] w fun e w' => e = .returned (.bool true) ∧ Below w.heap.size w w' := by
  have hN := mall_all op (low a) (low b)
  go_enter Tryd.func9, Tryd.ntmps9
  go_wp2_with (first
      | (go_at_call 31; refine (ptold_any _ G).mono ?_; rintro e w' ⟨rfl, h⟩; obtain rfl := h.symm)
      | (go_at_call 40; refine (pone_any _ _ _).mono ?_; rintro e w' ⟨rfl, h⟩; obtain rfl := h.symm)
      | (go_at_call 41; refine (poner_any _ _ _).mono ?_; rintro e w' ⟨rfl, h⟩; obtain rfl := h.symm)
      | (go_at_call 42; refine (ptwo_any _ _ _ _ G).mono ?_; rintro e w' ⟨rfl, h⟩; obtain rfl := h.symm)
      | (go_at_call 43; refine (prtwo_any _ _ _ _).mono ?_; rintro e w2 ⟨rfl, HB2⟩)
      | (go_at_call 44; refine (pbranch_any _ _ _).mono ?_; rintro e w' ⟨rfl, h⟩; obtain rfl := h.symm)
      | (go_at_call 45; refine (pbranchr_any _ _ _).mono ?_; rintro e w' ⟨rfl, h⟩; obtain rfl := h.symm))
  go_ret
  exact ⟨rfl, HB2⟩

set_option maxHeartbeats 4000000 in
theorem psound_walk (op x y s t : Int) (w : World) (G : GlobP w) (hx : i64 x) (hy : i64 y) : Calls Tryd.prog 10 #[.int .i64 op, .agg #[.int .i64 x, .int .i64 y], .agg #[.int .i64 s, .int .i64 t]] w fun e w' => e = .returned (.bool true) ∧ Below w.heap.size w w' := by
  have HX := hx
  unfold i64 at hx
  obtain ⟨hx1, hx2⟩ := hx
  have hlu : ∀ z, low (up z) = z := low_up
  have l1 := low_orpr s x
  have l2 := low_orpr t y
  have e1 := pone2_has (low s) x
  have e2 := pone3_has (low s) x
  have e3 := pbr_has (low s) x
  have q2 := psnd_any op x y (low s) (low t)
  by_cases q1 : (arith op x y).2 = true
  · have q3 := q2 q1
    clear q2
    go_enter Tryd.func10, Tryd.ntmps10
    go_wp2
    go_quiet (fail)
    go_wp2
    go_quiet ((go_at_call 34; exact (pofr_any _ (by assumption) _).mono (fun _ _ h => ⟨h.1, _, h.2⟩)))
    go_wp2_with (first
      | (go_at_call 29; refine (arith_ref _ _ _ _ HX hy).mono ?_; rintro e w' ⟨rfl, h⟩; obtain rfl := h.symm)
      | (go_at_call 31; refine (ptold_any _ (by repeat (first | exact G | apply GlobP.drewN | apply GlobP.drew | apply GlobP.alloc))).mono ?_; rintro e w' ⟨rfl, h⟩; obtain rfl := h.symm)
      | (go_at_call 42; refine (ptwo_any _ _ _ _ (by repeat (first | exact G | apply GlobP.drewN | apply GlobP.drew | apply GlobP.alloc))).mono ?_; rintro e w' ⟨rfl, h⟩; obtain rfl := h.symm)
      | (go_at_call 35; refine (phas_any _ _ _).mono ?_; rintro e w' ⟨rfl, h⟩; obtain rfl := h.symm)
      | (go_at_call 40; refine (pone_any _ _ _).mono ?_; rintro e w' ⟨rfl, h⟩; obtain rfl := h.symm)
      | (go_at_call 44; refine (pbranch_any _ _ _).mono ?_; rintro e w' ⟨rfl, h⟩; obtain rfl := h.symm))
    all_goals (go_ret; exact ⟨rfl, bel_drewN ((((Below.refl _ _).alloc (Nat.le_refl _) _).alloc (by simp) _)) _⟩)
  · clear q2
    go_enter Tryd.func10, Tryd.ntmps10
    go_wp2
    go_quiet (fail)
    go_wp2
    go_quiet ((go_at_call 34; exact (pofr_any _ (by assumption) _).mono (fun _ _ h => ⟨h.1, _, h.2⟩)))
    go_wp2_with (first
      | (go_at_call 29; refine (arith_ref _ _ _ _ HX hy).mono ?_; rintro e w' ⟨rfl, h⟩; obtain rfl := h.symm)
      | (go_at_call 31; refine (ptold_any _ (by repeat (first | exact G | apply GlobP.drewN | apply GlobP.drew | apply GlobP.alloc))).mono ?_; rintro e w' ⟨rfl, h⟩; obtain rfl := h.symm)
      | (go_at_call 42; refine (ptwo_any _ _ _ _ (by repeat (first | exact G | apply GlobP.drewN | apply GlobP.drew | apply GlobP.alloc))).mono ?_; rintro e w' ⟨rfl, h⟩; obtain rfl := h.symm)
      | (go_at_call 35; refine (phas_any _ _ _).mono ?_; rintro e w' ⟨rfl, h⟩; obtain rfl := h.symm)
      | (go_at_call 40; refine (pone_any _ _ _).mono ?_; rintro e w' ⟨rfl, h⟩; obtain rfl := h.symm)
      | (go_at_call 44; refine (pbranch_any _ _ _).mono ?_; rintro e w' ⟨rfl, h⟩; obtain rfl := h.symm))
    all_goals (go_ret; exact ⟨rfl, bel_drewN ((((Below.refl _ _).alloc (Nat.le_refl _) _).alloc (by simp) _)) _⟩)

set_option maxHeartbeats 4000000 in
theorem prises_walk (op a b m : Int) (w : World) (G : GlobP w) : Calls Tryd.prog 12 #[.int .i64 op, .agg #[.int .i64 a, .int .i64 b], .int .i64 m] w fun e w' => e = .returned (.bool true) ∧ Below w.heap.size w w' := by
  have h3a := and3 a
  have hlu : ∀ z, low (up z) = z := low_up
  have hlp : ∀ z, lp (up z) = z &&& 3#3 := lp_up
  have t1 : twoP op (low a) (low b) &&& 3#3 = twoP op (low a) (low b) := (twop_low op (low a) (low b)).2.2
  have t2 : twoP op (low m) (low b) &&& 3#3 = twoP op (low m) (low b) := (twop_low op (low m) (low b)).2.2
  have t3 : twoP op (low a) (low m) &&& 3#3 = twoP op (low a) (low m) := (twop_low op (low a) (low m)).2.2
  have r3 : twoP op (lp a ||| lp m) (low b) = twoP op (low a) (low b) ||| twoP op (low m) (low b) := by
    rw [twop_join1]; unfold lp; rw [(twop_low op (low a) (low b)).1, (twop_low op (low m) (low b)).1]
  have r4 : twoP op (low a) (lp b ||| lp m) = twoP op (low a) (low b) ||| twoP op (low a) (low m) := by
    rw [twop_join2]; unfold lp; rw [(twop_low op (low a) (low b)).2.1, (twop_low op (low a) (low m)).2.1]
  have r1 : withinS (twoP op (low a) (low b)) ((twoP op (low a) (low b) ||| twoP op (low m) (low b)) &&& 3#3) = true := by
    rw [show ∀ x y : BitVec 3, (x ||| y) &&& 3#3 = (x &&& 3#3) ||| (y &&& 3#3) by decide, t1, t2]; exact within_or _ _
  have r2 : withinS (twoP op (low a) (low b)) ((twoP op (low a) (low b) ||| twoP op (low a) (low m)) &&& 3#3) = true := by
    rw [show ∀ x y : BitVec 3, (x ||| y) &&& 3#3 = (x &&& 3#3) ||| (y &&& 3#3) by decide, t1, t3]; exact within_or _ _
  have r6 : withinS (oneP op (low a) &&& 3#3) (oneP op (lp a ||| lp m) &&& 3#3) = true := pone_within op (low a) (low m)
  have r7 : (branchP (low a) true &&& 3#3) ||| (branchP (low a) false &&& 3#3) = lp a := pbr_both (low a)
  go_enter Tryd.func12, Tryd.ntmps12
  go_wp2
  go_quiet (fail)
  go_wp2_with (first
      | (go_at_call 31; refine (ptold_any _ (by repeat (first | exact G | apply GlobP.drewN | apply GlobP.drew | apply GlobP.alloc))).mono ?_; rintro e w' ⟨rfl, h⟩; obtain rfl := h.symm)
      | (go_at_call 42; refine (ptwo_any _ _ _ _ (by repeat (first | exact G | apply GlobP.drewN | apply GlobP.drew | apply GlobP.alloc))).mono ?_; rintro e w' ⟨rfl, h⟩; obtain rfl := h.symm)
      | (go_at_call 37; refine (pjoin_any _ _ _).mono ?_; rintro e w' ⟨rfl, h⟩; obtain rfl := h.symm)
      | (go_at_call 39; refine (pwithin_any _ _ _).mono ?_; rintro e w' ⟨rfl, h⟩; obtain rfl := h.symm)
      | (go_at_call 40; refine (pone_any _ _ _).mono ?_; rintro e w' ⟨rfl, h⟩; obtain rfl := h.symm)
      | (go_at_call 44; refine (pbranch_any _ _ _).mono ?_; rintro e w' ⟨rfl, h⟩; obtain rfl := h.symm))
  all_goals (go_ret; exact ⟨rfl, bel_drewN ((Below.refl _ _).alloc (Nat.le_refl _) _) _⟩)
end Go.Proofs.YtldgnfdhdmhcjaaDoor
