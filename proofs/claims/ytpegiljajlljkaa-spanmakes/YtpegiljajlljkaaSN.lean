import Derived.Test.YtpegiljajlljkaaSM
namespace Go.Proofs.Ytpegiljajlljkaa
open Go.RowKit

theorem fit_iff (n : Int) : fit n = true ↔ (-9223372036854775808 ≤ n ∧ n ≤ 9223372036854775807) := by
  unfold fit
  rw [Bool.and_eq_true, decide_eq_true_iff, decide_eq_true_iff]
theorem wrap_fit (n : Int) (h0 : -9223372036854775808 ≤ n) (h1 : n ≤ 9223372036854775807) : wrap64 n = n := by
  unfold wrap64
  omega
theorem wrap_bd (n : Int) : -9223372036854775808 ≤ wrap64 n ∧ wrap64 n ≤ 9223372036854775807 := by
  unfold wrap64
  omega
theorem all_in (n : Int) (h0 : -9223372036854775808 ≤ n) (h1 : n ≤ 9223372036854775807) : In allP n := ⟨h0, h1⟩
/-- whatever two numbers come to is an int64 -/
theorem arith_bd (op x y : Int) (hx : i64 x) : i64 (arith op x y).1 := by
  unfold i64 at hx ⊢
  unfold arith
  by_cases h4 : op = 4
  · rw [if_pos h4]; exact wrap_bd _
  rw [if_neg h4]
  by_cases h5 : op = 5
  · rw [if_pos h5]; exact wrap_bd _
  rw [if_neg h5]
  by_cases h6 : op = 6
  · rw [if_pos h6]; exact wrap_bd _
  rw [if_neg h6]
  by_cases h7 : op = 7
  · rw [if_pos h7]; split
    · dsimp only; omega
    · exact wrap_bd _
  rw [if_neg h7]
  by_cases h8 : op = 8
  · rw [if_pos h8]; split
    · dsimp only; omega
    · rename_i h
      have := tmod_bd x y h
      dsimp only
      omega
  rw [if_neg h8]
  by_cases h9 : op = 9
  · rw [if_pos h9]; exact and_i64 _ _
  rw [if_neg h9]
  by_cases h10 : op = 10
  · rw [if_pos h10]; exact xor_i64 _ _
  rw [if_neg h10]
  split
  · dsimp only; split <;> omega
  split
  · dsimp only; split <;> omega
  dsimp only; omega

theorem sound4 (a b : Int × Int) (x y : Int) (_ha : Sp a) (_hb : Sp b) (hx : In a x) (hy : In b y) : In (sumsP a b) (wrap64 (x + y)) := by
  unfold sumsP
  split
  · rename_i h
    rw [Bool.and_eq_true, fit_iff, fit_iff] at h
    unfold In at hx hy ⊢
    rw [wrap_fit _ (by omega) (by omega)]
    dsimp only
    omega
  · exact all_in _ (wrap_bd _).1 (wrap_bd _).2
theorem sound5 (a b : Int × Int) (x y : Int) (_ha : Sp a) (_hb : Sp b) (hx : In a x) (hy : In b y) : In (diffsP a b) (wrap64 (x - y)) := by
  unfold diffsP
  split
  · rename_i h
    rw [Bool.and_eq_true, fit_iff, fit_iff] at h
    unfold In at hx hy ⊢
    rw [wrap_fit _ (by omega) (by omega)]
    dsimp only
    omega
  · exact all_in _ (wrap_bd _).1 (wrap_bd _).2
theorem sound6 (a b : Int × Int) (x y : Int) (hx : In a x) (hy : In b y) : In (prodsP a b) (wrap64 (x * y)) := by
  unfold prodsP
  split
  · rename_i h
    simp only [Bool.and_eq_true, fit_iff] at h
    have e := mul_hull a b x y hx hy
    rw [wrap_fit]
    · exact e
    · unfold mn at e; omega
    · unfold mx at e; omega
  · exact all_in _ (wrap_bd _).1 (wrap_bd _).2
theorem tdiv_fit (x y : Int) (hx : i64 x) (hy : y ≠ 0) (h : ¬ (x = -9223372036854775808 ∧ y = -1)) : -9223372036854775808 ≤ x.tdiv y ∧ x.tdiv y ≤ 9223372036854775807 := by
  unfold i64 at hx
  have e : (x.tdiv y).natAbs = x.natAbs / y.natAbs := Int.natAbs_tdiv x y
  have e2 : x.natAbs / y.natAbs ≤ x.natAbs := Nat.div_le_self _ _
  by_cases hm : x = -9223372036854775808
  · by_cases h1 : y = 1
    · rw [hm, h1]; decide
    · have h2 : 2 ≤ y.natAbs := by omega
      have e3 : x.natAbs / y.natAbs ≤ x.natAbs / 2 := Nat.div_le_div_left h2 (by omega)
      omega
  · omega
theorem quo_in_below (a b : Int × Int) (x y : Int) (hx : In a x) (hy : In b y) (h : y < 0) : In (quoP a (belowP b)) (x.tdiv y) := by
  refine quo_hull a (belowP b) x y (Or.inr ?_) hx ?_
  · unfold belowP; dsimp only; omega
  · unfold In belowP at *; dsimp only; omega
theorem quo_in_above (a b : Int × Int) (x y : Int) (hx : In a x) (hy : In b y) (h : 0 < y) : In (quoP a (aboveP b)) (x.tdiv y) := by
  refine quo_hull a (aboveP b) x y (Or.inl ?_) hx ?_
  · unfold aboveP; dsimp only; omega
  · unfold In aboveP at *; dsimp only; omega
theorem sound7 (a b : Int × Int) (x y : Int) (ha : Sp a) (hx : In a x) (hy : In b y) (h0 : y ≠ 0) : (quotsP a b).2 = true ∧ In (quotsP a b).1 (wrap64 (x.tdiv y)) := by
  have hxi : i64 x := by unfold Sp In i64 at *; omega
  unfold quotsP
  split
  · exact ⟨rfl, all_in _ (wrap_bd _).1 (wrap_bd _).2⟩
  rename_i h1
  have e := tdiv_fit x y hxi h0 (by unfold In Sp at *; omega)
  rw [wrap_fit _ e.1 e.2]
  rcases Int.lt_or_gt_of_ne h0 with h | h
  · have q := quo_in_below a b x y hx hy h
    have hb1 : b.1 ≤ -1 := by unfold In at hy; omega
    split
    · refine ⟨rfl, ?_⟩
      unfold In at q ⊢
      dsimp only
      omega
    · exact ⟨rfl, q⟩
  · have q := quo_in_above a b x y hx hy h
    have hb1 : 1 ≤ b.2 := by unfold In at hy; omega
    split
    · refine ⟨rfl, ?_⟩
      unfold In at q ⊢
      dsimp only
      omega
    · rw [if_neg (by omega)]
      exact ⟨rfl, q⟩
theorem sound8 (a b : Int × Int) (x y : Int) (hx : In a x) (hy : In b y) (h0 : y ≠ 0) : (remsP a b).2 = true ∧ In (remsP a b).1 (x.tmod y) := by
  unfold remsP
  have e := tmod_bd x y h0
  unfold In farP at *
  rw [if_neg (by omega)]
  refine ⟨rfl, ?_⟩
  dsimp only
  omega
theorem sound9 (a b : Int × Int) (x y : Int) (ha : Sp a) (hb : Sp b) (hx : In a x) (hy : In b y) : In (andsP a b) (bits .and .i64 x y) := by
  have hb0 := and_i64 x y
  have h1 : 0 ≤ x → 0 ≤ bits .and .i64 x y ∧ bits .and .i64 x y ≤ x := fun h => and_nn x y h (by unfold Sp In at *; omega)
  have h2 : 0 ≤ y → 0 ≤ bits .and .i64 x y ∧ bits .and .i64 x y ≤ y := fun h => by rw [and_comm64]; exact and_nn y x h (by unfold Sp In at *; omega)
  have h3 : x < 0 → y < 0 → bits .and .i64 x y ≤ x ∧ bits .and .i64 x y ≤ y := fun h h' => ⟨and_ng x y (by unfold Sp In at *; omega) h (by unfold Sp In at *; omega) h', by rw [and_comm64]; exact and_ng y x (by unfold Sp In at *; omega) h' (by unfold Sp In at *; omega) h⟩
  generalize bits .and .i64 x y = n at *
  unfold andsP
  unfold Sp In at *
  split
  · dsimp only; omega
  split
  · dsimp only; omega
  split
  · dsimp only; omega
  split
  · dsimp only; omega
  · dsimp only; omega
theorem sound10 (a b : Int × Int) (x y : Int) (ha : Sp a) (hb : Sp b) (hx : In a x) (hy : In b y) : In (xorsP a b) (bits .xor .i64 x y) := by
  unfold xorsP
  unfold Sp In at *
  split
  · exact xor_ones x y _ (by omega) (by omega) (by omega) (by omega) (by omega)
  split
  · rw [xor_nn]
    exact xor_ones (-1 - x) (-1 - y) _ (by omega) (by omega) (by omega) (by omega) (by omega)
  split
  · rw [xor_np]
    have e := xor_ones (-1 - x) y (max (-1 - a.1) b.2) (by omega) (by omega) (by omega) (by omega) (by omega)
    dsimp only
    omega
  split
  · rw [xor_comm64, xor_np]
    have e := xor_ones (-1 - y) x (max a.2 (-1 - b.1)) (by omega) (by omega) (by omega) (by omega) (by omega)
    dsimp only
    omega
  · exact xor_i64 x y
/-- what any numbers of two Spans come to is told -/
theorem two_sound (op : Int) (a b : Int × Int) (x y : Int) (ha : Sp a) (hb : Sp b) (hx : In a x) (hy : In b y) (h : (arith op x y).2 = true) : (twoP op a b).2 = true ∧ In (twoP op a b).1 (arith op x y).1 := by
  unfold arith twoP at *
  by_cases h4 : op = 4
  · simp only [if_pos h4]; exact ⟨trivial, sound4 a b x y ha hb hx hy⟩
  simp only [if_neg h4] at h ⊢
  by_cases h5 : op = 5
  · simp only [if_pos h5]; exact ⟨trivial, sound5 a b x y ha hb hx hy⟩
  simp only [if_neg h5] at h ⊢
  by_cases h6 : op = 6
  · simp only [if_pos h6]; exact ⟨trivial, sound6 a b x y hx hy⟩
  simp only [if_neg h6] at h ⊢
  by_cases h7 : op = 7
  · simp only [if_pos h7] at h ⊢
    have h0 : y ≠ 0 := by
      intro h0
      rw [if_pos h0] at h
      exact Bool.noConfusion h
    rw [if_neg h0]
    exact sound7 a b x y ha hx hy h0
  simp only [if_neg h7] at h ⊢
  by_cases h8 : op = 8
  · simp only [if_pos h8] at h ⊢
    have h0 : y ≠ 0 := by
      intro h0
      rw [if_pos h0] at h
      exact Bool.noConfusion h
    rw [if_neg h0]
    exact sound8 a b x y hx hy h0
  simp only [if_neg h8] at h ⊢
  by_cases h9 : op = 9
  · simp only [if_pos h9]; exact ⟨trivial, sound9 a b x y ha hb hx hy⟩
  simp only [if_neg h9] at h ⊢
  by_cases h10 : op = 10
  · simp only [if_pos h10]; exact ⟨trivial, sound10 a b x y ha hb hx hy⟩
  simp only [if_neg h10] at h ⊢
  by_cases h11 : op = 11
  · simp only [if_pos h11]
    refine ⟨trivial, ?_⟩
    unfold lessP In at *
    split <;> split <;> try split
    all_goals (dsimp only; omega)
  simp only [if_neg h11] at h ⊢
  by_cases h12 : op = 12
  · simp only [if_pos h12]
    refine ⟨trivial, ?_⟩
    unfold sameP In at *
    split <;> split <;> try split
    all_goals (dsimp only; omega)
  simp only [if_neg h12] at h ⊢
  exact Bool.noConfusion h
end Go.Proofs.Ytpegiljajlljkaa
