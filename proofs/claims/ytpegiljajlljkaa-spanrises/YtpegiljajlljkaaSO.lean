import Derived.Test.YtpegiljajlljkaaSN
namespace Go.Proofs.Ytpegiljajlljkaa
open Go.RowKit

theorem Wi.mem {s t : Int × Int} {x : Int} (h : Wi s t) (hx : In s x) : In t x := by
  unfold Wi In at *
  omega
theorem in_l {s : Int × Int} (h : Sp s) : In s s.1 := by unfold Sp In at *; omega
theorem in_h {s : Int × Int} (h : Sp s) : In s s.2 := by unfold Sp In at *; omega
theorem sub_all (s : Int × Int) (h0 : -9223372036854775808 ≤ s.1) (h1 : s.2 ≤ 9223372036854775807) : Wi s allP := ⟨h0, h1⟩
theorem mn_one (p q r s : Int) : mn p q r s = p ∨ mn p q r s = q ∨ mn p q r s = r ∨ mn p q r s = s := by unfold mn; omega
theorem mx_one (p q r s : Int) : mx p q r s = p ∨ mx p q r s = q ∨ mx p q r s = r ∨ mx p q r s = s := by unfold mx; omega
/-- four numbers of a Span: so is what lies from the least to the greatest -/
theorem hull_sub (p q r s : Int) (t : Int × Int) (h1 : In t p) (h2 : In t q) (h3 : In t r) (h4 : In t s) : Wi (mn p q r s, mx p q r s) t := by
  unfold Wi In mn mx at *
  dsimp only
  omega
theorem rises6 (a b a' b' : Int × Int) (ha : Sp a) (hb : Sp b) (h1 : Wi a a') (h2 : Wi b b') : Wi (prodsP a b) (prodsP a' b') := by
  unfold prodsP
  split
  · rename_i h
    simp only [Bool.and_eq_true, fit_iff] at h
    split
    · exact hull_sub _ _ _ _ _ (mul_hull a' b' _ _ (h1.mem (in_l ha)) (h2.mem (in_l hb))) (mul_hull a' b' _ _ (h1.mem (in_l ha)) (h2.mem (in_h hb))) (mul_hull a' b' _ _ (h1.mem (in_h ha)) (h2.mem (in_l hb))) (mul_hull a' b' _ _ (h1.mem (in_h ha)) (h2.mem (in_h hb)))
    · refine sub_all _ ?_ ?_
      · unfold mn; dsimp only; omega
      · unfold mx; dsimp only; omega
  · rename_i h
    rw [if_neg]
    · exact ⟨Int.le_refl _, Int.le_refl _⟩
    · intro h'
      apply h
      simp only [Bool.and_eq_true, fit_iff] at h' ⊢
      have e1 := mul_hull a' b' _ _ (h1.mem (in_l ha)) (h2.mem (in_l hb))
      have e2 := mul_hull a' b' _ _ (h1.mem (in_l ha)) (h2.mem (in_h hb))
      have e3 := mul_hull a' b' _ _ (h1.mem (in_h ha)) (h2.mem (in_l hb))
      have e4 := mul_hull a' b' _ _ (h1.mem (in_h ha)) (h2.mem (in_h hb))
      unfold mn mx at e1 e2 e3 e4
      omega
theorem below_in (b : Int × Int) (h : b.1 ≤ -1) (hb : b.1 ≤ b.2) : In b (belowP b).1 ∧ In b (belowP b).2 ∧ (belowP b).1 < 0 ∧ (belowP b).2 < 0 := by
  unfold belowP In; dsimp only; omega
theorem above_in (b : Int × Int) (h : 1 ≤ b.2) (hb : b.1 ≤ b.2) : In b (aboveP b).1 ∧ In b (aboveP b).2 ∧ 0 < (aboveP b).1 ∧ 0 < (aboveP b).2 := by
  unfold aboveP In; dsimp only; omega
/-- the quotient of two numbers is told, without going round -/
theorem quots_in (a b : Int × Int) (x y : Int) (ha : Sp a) (hx : In a x) (hy : In b y) (h0 : y ≠ 0) (hf : -9223372036854775808 ≤ x.tdiv y ∧ x.tdiv y ≤ 9223372036854775807) : In (quotsP a b).1 (x.tdiv y) := by
  have e := (sound7 a b x y ha hx hy h0).2
  rw [wrap_fit _ hf.1 hf.2] at e
  exact e
theorem quo_sub (a b p t : Int × Int) (h : ∀ x y, In a x → In b y → In t (x.tdiv y)) (ha : Sp a) (h1 : In b p.1) (h2 : In b p.2) : Wi (quoP a p) t :=
  hull_sub _ _ _ _ _ (h _ _ (in_l ha) h1) (h _ _ (in_l ha) h2) (h _ _ (in_h ha) h1) (h _ _ (in_h ha) h2)
theorem rises7 (a b a' b' : Int × Int) (ha : Sp a) (hb : Sp b) (ha' : Sp a') (h1 : Wi a a') (h2 : Wi b b') (hok : (quotsP a b).2 = true) : (quotsP a' b').2 = true ∧ Wi (quotsP a b).1 (quotsP a' b').1 := by
  by_cases hm : a.1 = -9223372036854775808 ∧ b.1 ≤ -1 ∧ -1 ≤ b.2
  · have hm' : a'.1 = -9223372036854775808 ∧ b'.1 ≤ -1 ∧ -1 ≤ b'.2 := by unfold Wi Sp at *; omega
    unfold quotsP
    rw [if_pos hm, if_pos hm']
    exact ⟨rfl, Int.le_refl _, Int.le_refl _⟩
  have hq : ∀ x y, In a x → In b y → y ≠ 0 → In (quotsP a' b').1 (x.tdiv y) := by
    intro x y hx hy h0
    exact quots_in a' b' x y ha' (h1.mem hx) (h2.mem hy) h0 (tdiv_fit x y (by unfold i64 Sp In at *; omega) h0 (by unfold In Sp at *; omega))
  have hs : ∀ p : Int × Int, In b p.1 → In b p.2 → p.1 ≠ 0 → p.2 ≠ 0 → Wi (quoP a p) (quotsP a' b').1 := fun p q1 q2 q3 q4 =>
    hull_sub _ _ _ _ _ (hq _ _ (in_l ha) q1 q3) (hq _ _ (in_l ha) q2 q4) (hq _ _ (in_h ha) q1 q3) (hq _ _ (in_h ha) q2 q4)
  have hok' : (quotsP a' b').2 = true := by
    unfold quotsP
    split
    · rfl
    split
    · rfl
    split
    · rfl
    split
    · rfl
    · exfalso
      unfold quotsP at hok
      unfold Wi Sp at *
      rw [if_neg hm, if_neg (by omega), if_neg (by omega), if_neg (by omega)] at hok
      exact Bool.noConfusion hok
  refine ⟨hok', ?_⟩
  generalize quotsP a' b' = t at *
  have hbr : b.1 ≤ b.2 := hb.2.1
  unfold quotsP at hok ⊢
  rw [if_neg hm] at hok ⊢
  split
  · rename_i h
    have i1 := below_in b h.1 hbr
    have i2 := above_in b h.2 hbr
    have s1 := hs (belowP b) i1.1 i1.2.1 (by omega) (by omega)
    have s2 := hs (aboveP b) i2.1 i2.2.1 (by omega) (by omega)
    unfold Wi at s1 s2 ⊢
    dsimp only
    omega
  split
  · rename_i h
    have i1 := below_in b h hbr
    exact hs (belowP b) i1.1 i1.2.1 (by omega) (by omega)
  split
  · rename_i h
    have i2 := above_in b h hbr
    exact hs (aboveP b) i2.1 i2.2.1 (by omega) (by omega)
  · rename_i k1 k2 k3
    rw [if_neg k1, if_neg k2, if_neg k3] at hok
    exact Bool.noConfusion hok
theorem rises10 (a b a' b' : Int × Int) (ha : Sp a) (hb : Sp b) (ha' : Sp a') (hb' : Sp b') (h1 : Wi a a') (h2 : Wi b b') : Wi (xorsP a b) (xorsP a' b') := by
  unfold Sp Wi at *
  have k1 := ones_mono (max a.2 b.2) (max a'.2 b'.2) (by omega)
  have k2 := ones_mono (max (-1 - a.1) (-1 - b.1)) (max (-1 - a'.1) (-1 - b'.1)) (by omega)
  have k3 := ones_mono (max (-1 - a.1) b.2) (max (-1 - a'.1) b'.2) (by omega)
  have k4 := ones_mono (max a.2 (-1 - b.1)) (max a'.2 (-1 - b'.1)) (by omega)
  have b1 := ones_bd (max a.2 b.2) (by omega)
  have b2 := ones_bd (max (-1 - a.1) (-1 - b.1)) (by omega)
  have b3 := ones_bd (max (-1 - a.1) b.2) (by omega)
  have b4 := ones_bd (max a.2 (-1 - b.1)) (by omega)
  unfold xorsP allP
  generalize onesI (max a.2 b.2) = p1 at *
  generalize onesI (max (-1 - a.1) (-1 - b.1)) = p2 at *
  generalize onesI (max (-1 - a.1) b.2) = p3 at *
  generalize onesI (max a.2 (-1 - b.1)) = p4 at *
  generalize onesI (max a'.2 b'.2) = q1 at *
  generalize onesI (max (-1 - a'.1) (-1 - b'.1)) = q2 at *
  generalize onesI (max (-1 - a'.1) b'.2) = q3 at *
  generalize onesI (max a'.2 (-1 - b'.1)) = q4 at *
  by_cases c1 : 0 ≤ a.1 ∧ 0 ≤ b.1
  · rw [if_pos c1]
    repeat' (first | (dsimp only; omega) | split)
  rw [if_neg c1]
  by_cases c2 : a.2 < 0 ∧ b.2 < 0
  · rw [if_pos c2]
    repeat' (first | (dsimp only; omega) | split)
  rw [if_neg c2]
  by_cases c3 : a.2 < 0 ∧ 0 ≤ b.1
  · rw [if_pos c3]
    repeat' (first | (dsimp only; omega) | split)
  rw [if_neg c3]
  by_cases c4 : 0 ≤ a.1 ∧ b.2 < 0
  · rw [if_pos c4]
    repeat' (first | (dsimp only; omega) | split)
  rw [if_neg c4]
  repeat' (first | (dsimp only; omega) | split)
/-- of more numbers as many come about, or more -/
theorem two_rises (op : Int) (a b a' b' : Int × Int) (ha : Sp a) (hb : Sp b) (ha' : Sp a') (hb' : Sp b') (h1 : Wi a a') (h2 : Wi b b') (hok : (twoP op a b).2 = true) : (twoP op a' b').2 = true ∧ Wi (twoP op a b).1 (twoP op a' b').1 := by
  unfold twoP at *
  by_cases h4 : op = 4
  · simp only [if_pos h4]
    refine ⟨trivial, ?_⟩
    unfold sumsP Wi Sp allP at *
    simp only [Bool.and_eq_true, fit_iff]
    split <;> split <;> (dsimp only; omega)
  simp only [if_neg h4] at hok ⊢
  by_cases h5 : op = 5
  · simp only [if_pos h5]
    refine ⟨trivial, ?_⟩
    unfold diffsP Wi Sp allP at *
    simp only [Bool.and_eq_true, fit_iff]
    split <;> split <;> (dsimp only; omega)
  simp only [if_neg h5] at hok ⊢
  by_cases h6 : op = 6
  · simp only [if_pos h6]; exact ⟨trivial, rises6 a b a' b' ha hb h1 h2⟩
  simp only [if_neg h6] at hok ⊢
  by_cases h7 : op = 7
  · simp only [if_pos h7] at hok ⊢; exact rises7 a b a' b' ha hb ha' h1 h2 hok
  simp only [if_neg h7] at hok ⊢
  by_cases h8 : op = 8
  · simp only [if_pos h8] at hok ⊢
    unfold remsP at *
    unfold Wi Sp farP at *
    split at hok
    · exact Bool.noConfusion hok
    · rename_i k
      rw [if_neg (by omega), if_neg k]
      refine ⟨rfl, ?_⟩
      dsimp only
      omega
  simp only [if_neg h8] at hok ⊢
  by_cases h9 : op = 9
  · simp only [if_pos h9]
    refine ⟨trivial, ?_⟩
    unfold andsP Wi Sp at *
    repeat' (first | (dsimp only; omega) | split)
  simp only [if_neg h9] at hok ⊢
  by_cases h10 : op = 10
  · simp only [if_pos h10]; exact ⟨trivial, rises10 a b a' b' ha hb ha' hb' h1 h2⟩
  simp only [if_neg h10] at hok ⊢
  by_cases h11 : op = 11
  · simp only [if_pos h11]
    refine ⟨trivial, ?_⟩
    unfold lessP Wi Sp at *
    repeat' (first | (dsimp only; omega) | split)
  simp only [if_neg h11] at hok ⊢
  by_cases h12 : op = 12
  · simp only [if_pos h12]
    refine ⟨trivial, ?_⟩
    unfold sameP Wi Sp at *
    repeat' (first | (dsimp only; omega) | split)
  simp only [if_neg h12] at hok ⊢
  exact Bool.noConfusion hok
end Go.Proofs.Ytpegiljajlljkaa
