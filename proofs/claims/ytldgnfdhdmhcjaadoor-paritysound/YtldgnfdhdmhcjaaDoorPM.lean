import Derived.Test.YtldgnfdhdmhcjaaDoorPp4
namespace Go.Proofs.YtldgnfdhdmhcjaaDoor
open Go.RowKit
theorem mod2_low (n : Int) : n % 2 = up (low n &&& 1) := by rw [← and_mod2, and_up _ _ (by omega) (by omega)]; rfl
theorem pr_in (T : BitVec 3) (r : Int) (h1 : r % 2 = 0 → bt T 0 = true) (h2 : r % 2 = 1 → bt T 1 = true) : hasP T r = true := by
  unfold hasP pr
  by_cases a : r % 2 = 0
  · have := h1 a
    rw [if_pos a]
    clear h1 h2
    revert T; decide
  · have := h2 (by omega)
    rw [if_neg a]
    clear h1 h2
    revert T; decide
theorem pr_even {x : Int} (h : x % 2 = 0) : pr x = 1 := by simp [pr, h]
theorem pr_odd {x : Int} (h : x % 2 = 1) : pr x = 2 := by simp [pr, h]
theorem wrap_mod2 (n : Int) : wrap64 n % 2 = n % 2 := by unfold wrap64; omega
theorem bit_and : ∀ p q : BitVec 3, (up (p &&& 1) = 0 → up (p &&& q &&& 1) = 0) ∧ (up (q &&& 1) = 0 → up (p &&& q &&& 1) = 0) ∧ (up (p &&& 1) = 1 → up (q &&& 1) = 1 → up (p &&& q &&& 1) = 1) := by decide
theorem bit_xor : ∀ p q : BitVec 3, (up (p &&& 1) = up (q &&& 1) → up ((p ^^^ q) &&& 1) = 0) ∧ (up (p &&& 1) ≠ up (q &&& 1) → up ((p ^^^ q) &&& 1) = 1) := by decide
theorem psnd4 (x y : Int) : hasP (twoP 4 (pr x) (pr y)) (wrap64 (x + y)) = true := by
  have t := wrap_mod2 (x + y)
  rcases pr_or x with a | a <;> rcases pr_or y with b | b
  · rw [pr_even a, pr_even b, show twoP 4 1 1 = 1 by decide]
    exact pr_in _ _ (fun _ => rfl) (fun h => by exfalso; omega)
  · rw [pr_even a, pr_odd b, show twoP 4 1 2 = 2 by decide]
    exact pr_in _ _ (fun h => by exfalso; omega) (fun _ => rfl)
  · rw [pr_odd a, pr_even b, show twoP 4 2 1 = 2 by decide]
    exact pr_in _ _ (fun h => by exfalso; omega) (fun _ => rfl)
  · rw [pr_odd a, pr_odd b, show twoP 4 2 2 = 1 by decide]
    exact pr_in _ _ (fun _ => rfl) (fun h => by exfalso; omega)
theorem psnd5 (x y : Int) : hasP (twoP 5 (pr x) (pr y)) (wrap64 (x - y)) = true := by
  have t := wrap_mod2 (x - y)
  rcases pr_or x with a | a <;> rcases pr_or y with b | b
  · rw [pr_even a, pr_even b, show twoP 5 1 1 = 1 by decide]
    exact pr_in _ _ (fun _ => rfl) (fun h => by exfalso; omega)
  · rw [pr_even a, pr_odd b, show twoP 5 1 2 = 2 by decide]
    exact pr_in _ _ (fun h => by exfalso; omega) (fun _ => rfl)
  · rw [pr_odd a, pr_even b, show twoP 5 2 1 = 2 by decide]
    exact pr_in _ _ (fun h => by exfalso; omega) (fun _ => rfl)
  · rw [pr_odd a, pr_odd b, show twoP 5 2 2 = 1 by decide]
    exact pr_in _ _ (fun _ => rfl) (fun h => by exfalso; omega)
theorem psnd6 (x y : Int) : hasP (twoP 6 (pr x) (pr y)) (wrap64 (x * y)) = true := by
  have t := wrap_mod2 (x * y)
  rw [Int.mul_emod] at t
  rcases pr_or x with a | a <;> rcases pr_or y with b | b
  · rw [pr_even a, pr_even b, show twoP 6 1 1 = 1 by decide]
    exact pr_in _ _ (fun _ => rfl) (fun h => by exfalso; rw [a, b] at t; omega)
  · rw [pr_even a, pr_odd b, show twoP 6 1 2 = 1 by decide]
    exact pr_in _ _ (fun _ => rfl) (fun h => by exfalso; rw [a, b] at t; omega)
  · rw [pr_odd a, pr_even b, show twoP 6 2 1 = 1 by decide]
    exact pr_in _ _ (fun _ => rfl) (fun h => by exfalso; rw [a, b] at t; omega)
  · rw [pr_odd a, pr_odd b, show twoP 6 2 2 = 2 by decide]
    exact pr_in _ _ (fun h => by exfalso; rw [a, b] at t; omega) (fun _ => rfl)
theorem psnd7 (x y : Int) : hasP (twoP 7 (pr x) (pr y)) (wrap64 (x.tdiv y)) = true := by
  rcases pr_or x with a | a <;> rcases pr_or y with b | b
  · rw [pr_even a, pr_even b, show twoP 7 1 1 = 3 by decide]
    exact pr_in _ _ (fun _ => rfl) (fun _ => rfl)
  · rw [pr_even a, pr_odd b, show twoP 7 1 2 = 3 by decide]
    exact pr_in _ _ (fun _ => rfl) (fun _ => rfl)
  · rw [pr_odd a, pr_even b, show twoP 7 2 1 = 3 by decide]
    exact pr_in _ _ (fun _ => rfl) (fun _ => rfl)
  · rw [pr_odd a, pr_odd b, show twoP 7 2 2 = 3 by decide]
    exact pr_in _ _ (fun _ => rfl) (fun _ => rfl)
theorem psnd8 (x y : Int) : hasP (twoP 8 (pr x) (pr y)) (x.tmod y) = true := by
  have t : y % 2 = 0 → x.tmod y % 2 = x % 2 := fun h => by
    obtain ⟨z, hz⟩ : ∃ z, y = 2 * z := ⟨y / 2, by omega⟩
    rw [Int.tmod_def, hz, Int.mul_assoc]
    omega
  rcases pr_or x with a | a <;> rcases pr_or y with b | b
  · rw [pr_even a, pr_even b, show twoP 8 1 1 = 1 by decide]
    exact pr_in _ _ (fun _ => rfl) (fun h => by exfalso; omega)
  · rw [pr_even a, pr_odd b, show twoP 8 1 2 = 3 by decide]
    exact pr_in _ _ (fun _ => rfl) (fun _ => rfl)
  · rw [pr_odd a, pr_even b, show twoP 8 2 1 = 2 by decide]
    exact pr_in _ _ (fun h => by exfalso; omega) (fun _ => rfl)
  · rw [pr_odd a, pr_odd b, show twoP 8 2 2 = 3 by decide]
    exact pr_in _ _ (fun _ => rfl) (fun _ => rfl)
theorem psnd9 (x y : Int) : hasP (twoP 9 (pr x) (pr y)) (bits .and .i64 x y) = true := by
  have t : bits .and .i64 x y % 2 = up (low x &&& low y &&& 1) := by rw [mod2_low, low_and]
  have u := bit_and (low x) (low y)
  rw [← mod2_low, ← mod2_low, ← t] at u
  rcases pr_or x with a | a <;> rcases pr_or y with b | b
  · rw [pr_even a, pr_even b, show twoP 9 1 1 = 1 by decide]
    exact pr_in _ _ (fun _ => rfl) (fun h => by exfalso; omega)
  · rw [pr_even a, pr_odd b, show twoP 9 1 2 = 1 by decide]
    exact pr_in _ _ (fun _ => rfl) (fun h => by exfalso; omega)
  · rw [pr_odd a, pr_even b, show twoP 9 2 1 = 1 by decide]
    exact pr_in _ _ (fun _ => rfl) (fun h => by exfalso; omega)
  · rw [pr_odd a, pr_odd b, show twoP 9 2 2 = 2 by decide]
    exact pr_in _ _ (fun h => by exfalso; omega) (fun _ => rfl)
theorem psnd10 (x y : Int) : hasP (twoP 10 (pr x) (pr y)) (bits .xor .i64 x y) = true := by
  have t : bits .xor .i64 x y % 2 = up ((low x ^^^ low y) &&& 1) := by rw [mod2_low, low_xor]
  have u := bit_xor (low x) (low y)
  rw [← mod2_low, ← mod2_low, ← t] at u
  rcases pr_or x with a | a <;> rcases pr_or y with b | b
  · rw [pr_even a, pr_even b, show twoP 10 1 1 = 1 by decide]
    exact pr_in _ _ (fun _ => rfl) (fun h => by exfalso; omega)
  · rw [pr_even a, pr_odd b, show twoP 10 1 2 = 2 by decide]
    exact pr_in _ _ (fun h => by exfalso; omega) (fun _ => rfl)
  · rw [pr_odd a, pr_even b, show twoP 10 2 1 = 2 by decide]
    exact pr_in _ _ (fun h => by exfalso; omega) (fun _ => rfl)
  · rw [pr_odd a, pr_odd b, show twoP 10 2 2 = 1 by decide]
    exact pr_in _ _ (fun _ => rfl) (fun h => by exfalso; omega)
theorem psnd11 (x y : Int) : hasP (twoP 11 (pr x) (pr y)) ((if x < y then 1 else 0 : Int)) = true := by
  rcases pr_or x with a | a <;> rcases pr_or y with b | b
  · rw [pr_even a, pr_even b, show twoP 11 1 1 = 3 by decide]
    exact pr_in _ _ (fun _ => rfl) (fun _ => rfl)
  · rw [pr_even a, pr_odd b, show twoP 11 1 2 = 3 by decide]
    exact pr_in _ _ (fun _ => rfl) (fun _ => rfl)
  · rw [pr_odd a, pr_even b, show twoP 11 2 1 = 3 by decide]
    exact pr_in _ _ (fun _ => rfl) (fun _ => rfl)
  · rw [pr_odd a, pr_odd b, show twoP 11 2 2 = 3 by decide]
    exact pr_in _ _ (fun _ => rfl) (fun _ => rfl)
theorem psnd12 (x y : Int) : hasP (twoP 12 (pr x) (pr y)) ((if x = y then 1 else 0 : Int)) = true := by
  rcases pr_or x with a | a <;> rcases pr_or y with b | b
  · rw [pr_even a, pr_even b, show twoP 12 1 1 = 3 by decide]
    exact pr_in _ _ (fun _ => rfl) (fun _ => rfl)
  · rw [pr_even a, pr_odd b, show twoP 12 1 2 = 1 by decide]
    exact pr_in _ _ (fun _ => rfl) (fun h => by exfalso; split at h <;> omega)
  · rw [pr_odd a, pr_even b, show twoP 12 2 1 = 1 by decide]
    exact pr_in _ _ (fun _ => rfl) (fun h => by exfalso; split at h <;> omega)
  · rw [pr_odd a, pr_odd b, show twoP 12 2 2 = 3 by decide]
    exact pr_in _ _ (fun _ => rfl) (fun _ => rfl)
theorem psnd_core (op x y : Int) (hok : (arith op x y).2 = true) : hasP (twoP op (pr x) (pr y)) (arith op x y).1 = true := by
  by_cases hop : 4 ≤ op ∧ op ≤ 12
  · rcases op_cases op hop with rfl | rfl | rfl | rfl | rfl | rfl | rfl | rfl | rfl
    · exact psnd4 x y
    · exact psnd5 x y
    · exact psnd6 x y
    · have h0 : y ≠ 0 := fun h => by rw [h] at hok; simp [arith] at hok
      have e : (arith 7 x y).1 = wrap64 (x.tdiv y) := by simp [arith, h0]
      rw [e]; exact psnd7 x y
    · have h0 : y ≠ 0 := fun h => by rw [h] at hok; simp [arith] at hok
      have e : (arith 8 x y).1 = x.tmod y := by simp [arith, h0]
      rw [e]; exact psnd8 x y
    · exact psnd9 x y
    · exact psnd10 x y
    · exact psnd11 x y
    · exact psnd12 x y
  · have : arith op x y = (0, false) := by
      unfold arith
      rw [if_neg (by omega), if_neg (by omega), if_neg (by omega), if_neg (by omega), if_neg (by omega), if_neg (by omega), if_neg (by omega), if_neg (by omega), if_neg (by omega)]
    rw [this] at hok
    cases hok
theorem pjoin1 : ∀ o : Fin 9, ∀ x m y : BitVec 3, pAll o.val (x ||| m) y 2 = pAll o.val x y 2 ||| pAll o.val m y 2 := by decide +kernel
theorem pjoin2 : ∀ o : Fin 9, ∀ x y m : BitVec 3, pAll o.val x (y ||| m) 2 = pAll o.val x y 2 ||| pAll o.val x m 2 := by decide +kernel
theorem plow : ∀ o : Fin 9, ∀ x y : BitVec 3, pAll o.val (x &&& 3) y 2 = pAll o.val x y 2 ∧ pAll o.val x (y &&& 3) 2 = pAll o.val x y 2 ∧ pAll o.val x y 2 &&& 3 = pAll o.val x y 2 := by decide +kernel
theorem twop_join1 (op : Int) (x m y : BitVec 3) : twoP op (x ||| m) y = twoP op x y ||| twoP op m y := by
  unfold twoP
  by_cases h : 4 ≤ op ∧ op ≤ 12
  · rw [if_pos h, if_pos h, if_pos h]
    exact pjoin1 ⟨(op - 4).toNat, by omega⟩ x m y
  · rw [if_neg h, if_neg h, if_neg h]; rfl
theorem twop_join2 (op : Int) (x y m : BitVec 3) : twoP op x (y ||| m) = twoP op x y ||| twoP op x m := by
  unfold twoP
  by_cases h : 4 ≤ op ∧ op ≤ 12
  · rw [if_pos h, if_pos h, if_pos h]
    exact pjoin2 ⟨(op - 4).toNat, by omega⟩ x y m
  · rw [if_neg h, if_neg h, if_neg h]; rfl
theorem twop_low (op : Int) (x y : BitVec 3) : twoP op (x &&& 3) y = twoP op x y ∧ twoP op x (y &&& 3) = twoP op x y ∧ twoP op x y &&& 3 = twoP op x y := by
  unfold twoP
  by_cases h : 4 ≤ op ∧ op ≤ 12
  · rw [if_pos h, if_pos h, if_pos h]
    exact plow ⟨(op - 4).toNat, by omega⟩ x y
  · rw [if_neg h, if_neg h, if_neg h]; exact ⟨rfl, rfl, rfl⟩
theorem phas_more (T U : BitVec 3) (r : Int) (h : hasP T r = true) : hasP (U ||| T) r = true := by
  unfold hasP at h ⊢
  generalize pr r = s at *
  revert T U s; decide
theorem psnd_any (op x y : Int) (A B : BitVec 3) (hok : (arith op x y).2 = true) : hasP (twoP op (A ||| pr x) (B ||| pr y)) (arith op x y).1 = true := by
  rw [twop_join1, twop_join2 op (pr x)]
  exact phas_more _ _ _ (phas_more _ _ _ (psnd_core op x y hok))
theorem pone2_has (A : BitVec 3) (x : Int) : hasP (oneP 2 (A ||| pr x)) x = true := by
  rcases pr_or x with a | a
  · unfold hasP; rw [pr_even a]; revert A; decide
  · unfold hasP; rw [pr_odd a]; revert A; decide
theorem pone3_has (A : BitVec 3) (x : Int) : hasP (oneP 3 (A ||| pr x)) (wrap64 (-x)) = true := by
  have t := wrap_mod2 (-x)
  rcases pr_or x with a | a
  · unfold hasP; rw [pr_even a, pr_even (x := wrap64 (-x)) (by omega)]; revert A; decide
  · unfold hasP; rw [pr_odd a, pr_odd (x := wrap64 (-x)) (by omega)]; revert A; decide
theorem pbr_has (A : BitVec 3) (x : Int) : hasP (branchP (A ||| pr x) (x != 0)) x = true := by
  by_cases h : x = 0
  · subst h
    show hasP (branchP (A ||| pr 0) false) 0 = true
    unfold hasP; rw [show pr 0 = 1 from rfl]; revert A; decide
  · rw [show (x != 0) = true by simp [h]]
    rcases pr_or x with a | a
    · unfold hasP; rw [pr_even a]; revert A; decide
    · unfold hasP; rw [pr_odd a]; revert A; decide
theorem pone_within (op : Int) (x y : BitVec 3) : withinS (oneP op x &&& 3) (oneP op ((x &&& 3) ||| (y &&& 3)) &&& 3) = true := by
  unfold oneP
  split
  · revert x y; decide
  · rfl
theorem pbr_both : ∀ x : BitVec 3, (branchP x true &&& 3) ||| (branchP x false &&& 3) = x &&& 3 := by decide
theorem twop_zero1 (op : Int) (y : BitVec 3) : twoP op 0 y = 0 := by
  unfold twoP
  split
  · generalize (op - 4).toNat = o
    simp [pAll, pRow, pPair, bt]
  · rfl
theorem twop_zero2 (op : Int) (x : BitVec 3) : twoP op x 0 = 0 := by
  unfold twoP
  split
  · generalize (op - 4).toNat = o
    simp [pAll, pRow, pPair, bt]
  · rfl
set_option maxRecDepth 100000 in
theorem mall4 : ∀ x y, mAll 4 x y 16 = twoP 4 x y := by decide +kernel
set_option maxRecDepth 100000 in
theorem mall5 : ∀ x y, mAll 5 x y 16 = twoP 5 x y := by decide +kernel
set_option maxRecDepth 100000 in
theorem mall6 : ∀ x y, mAll 6 x y 16 = twoP 6 x y := by decide +kernel
set_option maxRecDepth 100000 in
theorem mall7 : ∀ x y, mAll 7 x y 16 = twoP 7 x y := by decide +kernel
set_option maxRecDepth 100000 in
theorem mall8 : ∀ x y, mAll 8 x y 16 = twoP 8 x y := by decide +kernel
set_option maxRecDepth 100000 in
theorem mall9 : ∀ x y, mAll 9 x y 16 = twoP 9 x y := by decide +kernel
set_option maxRecDepth 100000 in
theorem mall10 : ∀ x y, mAll 10 x y 16 = twoP 10 x y := by decide +kernel
set_option maxRecDepth 100000 in
theorem mall11 : ∀ x y, mAll 11 x y 16 = twoP 11 x y := by decide +kernel
set_option maxRecDepth 100000 in
theorem mall12 : ∀ x y, mAll 12 x y 16 = twoP 12 x y := by decide +kernel
theorem mall_no (op : Int) (x y : BitVec 3) (h : ¬ (4 ≤ op ∧ op ≤ 12)) : mAll op x y 16 = 0 := by
  have ha : ∀ a b, arith op a b = (0, false) := fun a b => by
    unfold arith
    rw [if_neg (by omega), if_neg (by omega), if_neg (by omega), if_neg (by omega), if_neg (by omega), if_neg (by omega), if_neg (by omega), if_neg (by omega), if_neg (by omega)]
  have hc : ∀ i k, pCell op x y i k = 0 := fun i k => by simp [pCell, ha]
  have hr : ∀ i n, mRow op x y i n = 0 := by
    intro i n
    induction n with
    | zero => rfl
    | succ n ih => simp [mRow, ih, hc]
  have : ∀ n, mAll op x y n = 0 := by
    intro n
    induction n with
    | zero => rfl
    | succ n ih => simp [mAll, ih, hr]
  exact this 16
theorem mall_all (op : Int) (x y : BitVec 3) : mAll op x y 16 = twoP op x y := by
  by_cases h : 4 ≤ op ∧ op ≤ 12
  · rcases op_cases op h with rfl | rfl | rfl | rfl | rfl | rfl | rfl | rfl | rfl
    · exact mall4 x y
    · exact mall5 x y
    · exact mall6 x y
    · exact mall7 x y
    · exact mall8 x y
    · exact mall9 x y
    · exact mall10 x y
    · exact mall11 x y
    · exact mall12 x y
  · rw [mall_no op x y h, twoP, if_neg h]
theorem ptold_any (w : World) (G : GlobP w) : Calls Tryd.prog 31 #[] w fun e w' => e = .returned (.bool true) ∧ w' = w := by
  have t1 : up (twoP 6 (low 2) (low 2)) = 2 := by decide
  have t2 : up (branchP (low 2) false) = 0 := by decide
  have t3 : up (pr (-3)) = 2 := by decide
  go_enter Tryd.func31, Tryd.ntmps31
  go_wp2_with (first | (go_at_call 42; refine (ptwo_any _ _ _ _ G).mono ?_; rintro e w' ⟨rfl, rfl⟩) | (go_at_call 33; refine (pof_any _ _).mono ?_; rintro e w' ⟨rfl, rfl⟩) | (go_at_call 32; refine (pright_any _ _).mono ?_; rintro e w' ⟨rfl, rfl⟩) | (go_at_call 44; refine (pbranch_any _ _ _).mono ?_; rintro e w' ⟨rfl, rfl⟩))
  go_ret
  exact ⟨rfl, rfl⟩
end Go.Proofs.YtldgnfdhdmhcjaaDoor
