import Derived.Test.YtpegiljajlljkaaSO
namespace Go.Proofs.Ytpegiljajlljkaa
open Go.RowKit
/-- the numbers that SpanEnds tries -/
def eX (a : Int × Int) (i : Nat) : Int := if i = 0 then a.1 else a.2
def eY (b : Int × Int) (k : Nat) : Int := if k = 0 then b.1 else if k = 1 then b.2 else if k = 2 then 1 else -1
/-- does the m-th pair come to n -/
def eHit (o : Int) (a b : Int × Int) (n : Int) (i k : Nat) : Bool := (arith o (eX a i) (eY b k)).2 && (decide (b.1 ≤ eY b k) && decide (eY b k ≤ b.2)) && ((arith o (eX a i) (eY b k)).1 == n)
def eRow (o : Int) (a b : Int × Int) (n : Int) (i : Nat) : Nat → Bool
  | 0 => false
  | k + 1 => eRow o a b n i k || eHit o a b n i k
def eAll (o : Int) (a b : Int × Int) (n : Int) : Nat → Bool
  | 0 => false
  | i + 1 => eAll o a b n i || eRow o a b n i 4
theorem eAll_of (o : Int) (a b : Int × Int) (n : Int) (i k : Nat) (hi : i < 2) (hk : k < 4) (h : eHit o a b n i k = true) : eAll o a b n 2 = true := by
  have h4 : eRow o a b n i 4 = true := by
    match k, hk with
    | 0, _ => simp [eRow, h]
    | 1, _ => simp [eRow, h]
    | 2, _ => simp [eRow, h]
    | 3, _ => simp [eRow, h]
  match i, hi with
  | 0, _ => simp [eAll, h4]
  | 1, _ => simp [eAll, h4]
theorem eHit_mk (o : Int) (a b : Int × Int) (n : Int) (i k : Nat) (h1 : (arith o (eX a i) (eY b k)).2 = true) (h2 : In b (eY b k)) (h3 : (arith o (eX a i) (eY b k)).1 = n) : eHit o a b n i k = true := by
  unfold eHit
  rw [h1, h3]
  simp only [Bool.true_and, Bool.and_eq_true, decide_eq_true_iff, beq_self_eq_true, and_true]
  exact h2
theorem hit4 (a b : Int × Int) (i k : Nat) (h : fit (eX a i + eY b k) = true) (hb : In b (eY b k)) : eHit 4 a b (eX a i + eY b k) i k = true := by
  rw [fit_iff] at h
  exact eHit_mk 4 a b _ i k rfl hb (wrap_fit _ h.1 h.2)
theorem hit5 (a b : Int × Int) (i k : Nat) (h : fit (eX a i - eY b k) = true) (hb : In b (eY b k)) : eHit 5 a b (eX a i - eY b k) i k = true := by
  rw [fit_iff] at h
  exact eHit_mk 5 a b _ i k rfl hb (wrap_fit _ h.1 h.2)
theorem hit6 (a b : Int × Int) (i k : Nat) (h : fit (eX a i * eY b k) = true) (hb : In b (eY b k)) : eHit 6 a b (eX a i * eY b k) i k = true := by
  rw [fit_iff] at h
  exact eHit_mk 6 a b _ i k rfl hb (wrap_fit _ h.1 h.2)
theorem hit7 (a b : Int × Int) (i k : Nat) (h0 : eY b k ≠ 0) (h : -9223372036854775808 ≤ (eX a i).tdiv (eY b k) ∧ (eX a i).tdiv (eY b k) ≤ 9223372036854775807) (hb : In b (eY b k)) : eHit 7 a b ((eX a i).tdiv (eY b k)) i k = true := by
  have e : arith 7 (eX a i) (eY b k) = (wrap64 ((eX a i).tdiv (eY b k)), true) := by
    unfold arith
    simp only [Int.reduceEq, if_false, if_true, if_neg h0]
  refine eHit_mk 7 a b _ i k ?_ hb ?_
  · rw [e]
  · rw [e]; exact wrap_fit _ h.1 h.2
theorem b0_in (b : Int × Int) (hb : Sp b) : In b (eY b 0) ∧ In b (eY b 1) := by
  unfold Sp at hb
  unfold In eY
  simp
  omega
/-- both ends of what two Spans come to, if it isn't all, are what two numbers come to -/
theorem two_ends (o : Int) (a b : Int × Int) (ha : Sp a) (hb : Sp b) (ho : 4 ≤ o ∧ o ≤ 7) (hok : (twoP o a b).2 = true) (hn : (twoP o a b).1 ≠ allP) : eAll o a b (twoP o a b).1.1 2 = true ∧ eAll o a b (twoP o a b).1.2 2 = true := by
  have hb01 := b0_in b hb
  rcases (by omega : o = 4 ∨ o = 5 ∨ o = 6 ∨ o = 7) with rfl | rfl | rfl | rfl
  · have e : twoP 4 a b = (sumsP a b, true) := by unfold twoP; simp only [if_true]
    rw [e] at hn ⊢
    dsimp only at hn ⊢
    unfold sumsP at hn ⊢
    split at hn
    · rename_i h
      rw [Bool.and_eq_true] at h
      rw [if_pos (by rw [Bool.and_eq_true]; exact h)]
      exact ⟨eAll_of _ _ _ _ 0 0 (by omega) (by omega) (hit4 a b 0 0 h.1 hb01.1), eAll_of _ _ _ _ 1 1 (by omega) (by omega) (hit4 a b 1 1 h.2 hb01.2)⟩
    · exact absurd rfl hn
  · have e : twoP 5 a b = (diffsP a b, true) := by unfold twoP; simp only [Int.reduceEq, if_false, if_true]
    rw [e] at hn ⊢
    dsimp only at hn ⊢
    unfold diffsP at hn ⊢
    split at hn
    · rename_i h
      rw [Bool.and_eq_true] at h
      rw [if_pos (by rw [Bool.and_eq_true]; exact h)]
      exact ⟨eAll_of _ _ _ _ 0 1 (by omega) (by omega) (hit5 a b 0 1 h.1 hb01.2), eAll_of _ _ _ _ 1 0 (by omega) (by omega) (hit5 a b 1 0 h.2 hb01.1)⟩
    · exact absurd rfl hn
  · have e : twoP 6 a b = (prodsP a b, true) := by unfold twoP; simp only [Int.reduceEq, if_false, if_true]
    rw [e] at hn ⊢
    dsimp only at hn ⊢
    unfold prodsP at hn ⊢
    split at hn
    · rename_i h
      rw [if_pos h]
      simp only [Bool.and_eq_true] at h
      have k00 := eAll_of _ _ _ _ 0 0 (by omega) (by omega) (hit6 a b 0 0 h.1.1.1 hb01.1)
      have k01 := eAll_of _ _ _ _ 0 1 (by omega) (by omega) (hit6 a b 0 1 h.1.1.2 hb01.2)
      have k10 := eAll_of _ _ _ _ 1 0 (by omega) (by omega) (hit6 a b 1 0 h.1.2 hb01.1)
      have k11 := eAll_of _ _ _ _ 1 1 (by omega) (by omega) (hit6 a b 1 1 h.2 hb01.2)
      constructor
      · dsimp only
        rcases mn_one (a.1 * b.1) (a.1 * b.2) (a.2 * b.1) (a.2 * b.2) with h | h | h | h <;> rw [h]
        · exact k00
        · exact k01
        · exact k10
        · exact k11
      · dsimp only
        rcases mx_one (a.1 * b.1) (a.1 * b.2) (a.2 * b.1) (a.2 * b.2) with h | h | h | h <;> rw [h]
        · exact k00
        · exact k01
        · exact k10
        · exact k11
    · exact absurd rfl hn
  · have e : twoP 7 a b = quotsP a b := by unfold twoP; simp only [Int.reduceEq, if_false, if_true]
    rw [e] at hn hok ⊢
    by_cases hA : a.1 = -9223372036854775808 ∧ b.1 ≤ -1 ∧ -1 ≤ b.2
    · exact absurd (by unfold quotsP; rw [if_pos hA]) hn
    -- each number of b that isn't 0 and is among those that are tried
    have key : ∀ y, In b y → y ≠ 0 → (y = b.1 ∨ y = b.2 ∨ y = 1 ∨ y = -1) → ∀ i, i < 2 → eAll 7 a b ((eX a i).tdiv y) 2 = true := by
      intro y hy h0 hc i hi
      have hx : In a (eX a i) := by
        unfold Sp at ha
        unfold In eX
        split <;> omega
      have hf := tdiv_fit (eX a i) y (by unfold i64 Sp In at *; omega) h0 (by unfold Sp In at *; omega)
      rcases hc with rfl | rfl | rfl | rfl
      · exact eAll_of 7 a b _ i 0 hi (by omega) (hit7 a b i 0 h0 hf hy)
      · exact eAll_of 7 a b _ i 1 hi (by omega) (hit7 a b i 1 h0 hf hy)
      · exact eAll_of 7 a b _ i 2 hi (by omega) (hit7 a b i 2 h0 hf hy)
      · exact eAll_of 7 a b _ i 3 hi (by omega) (hit7 a b i 3 h0 hf hy)
    have part : ∀ p : Int × Int, In b p.1 → In b p.2 → p.1 ≠ 0 → p.2 ≠ 0 → (p.1 = b.1 ∨ p.1 = b.2 ∨ p.1 = 1 ∨ p.1 = -1) → (p.2 = b.1 ∨ p.2 = b.2 ∨ p.2 = 1 ∨ p.2 = -1) → eAll 7 a b (quoP a p).1 2 = true ∧ eAll 7 a b (quoP a p).2 2 = true := by
      intro p h1 h2 h3 h4 h5 h6
      have k00 := key p.1 h1 h3 h5 0 (by omega)
      have k01 := key p.2 h2 h4 h6 0 (by omega)
      have k10 := key p.1 h1 h3 h5 1 (by omega)
      have k11 := key p.2 h2 h4 h6 1 (by omega)
      unfold quoP
      dsimp only
      constructor
      · rcases mn_one (a.1.tdiv p.1) (a.1.tdiv p.2) (a.2.tdiv p.1) (a.2.tdiv p.2) with h | h | h | h <;> rw [h]
        · exact k00
        · exact k01
        · exact k10
        · exact k11
      · rcases mx_one (a.1.tdiv p.1) (a.1.tdiv p.2) (a.2.tdiv p.1) (a.2.tdiv p.2) with h | h | h | h <;> rw [h]
        · exact k00
        · exact k01
        · exact k10
        · exact k11
    have pB : b.1 ≤ -1 → eAll 7 a b (quoP a (belowP b)).1 2 = true ∧ eAll 7 a b (quoP a (belowP b)).2 2 = true := fun h => by
      have i1 := below_in b h hb.2.1
      refine part (belowP b) i1.1 i1.2.1 (by omega) (by omega) (Or.inl rfl) ?_
      unfold belowP
      dsimp only
      omega
    have pA : 1 ≤ b.2 → eAll 7 a b (quoP a (aboveP b)).1 2 = true ∧ eAll 7 a b (quoP a (aboveP b)).2 2 = true := fun h => by
      have i1 := above_in b h hb.2.1
      refine part (aboveP b) i1.1 i1.2.1 (by omega) (by omega) ?_ (Or.inr (Or.inl rfl))
      unfold aboveP
      dsimp only
      omega
    unfold quotsP at hok ⊢
    rw [if_neg hA] at hok ⊢
    by_cases c1 : b.1 ≤ -1 ∧ 1 ≤ b.2
    · rw [if_pos c1]
      have q1 := pB c1.1
      have q2 := pA c1.2
      dsimp only
      constructor
      · rcases (by omega : min (quoP a (belowP b)).1 (quoP a (aboveP b)).1 = (quoP a (belowP b)).1 ∨ min (quoP a (belowP b)).1 (quoP a (aboveP b)).1 = (quoP a (aboveP b)).1) with h | h <;> rw [h]
        · exact q1.1
        · exact q2.1
      · rcases (by omega : max (quoP a (belowP b)).2 (quoP a (aboveP b)).2 = (quoP a (belowP b)).2 ∨ max (quoP a (belowP b)).2 (quoP a (aboveP b)).2 = (quoP a (aboveP b)).2) with h | h <;> rw [h]
        · exact q1.2
        · exact q2.2
    rw [if_neg c1] at hok ⊢
    by_cases c2 : b.1 ≤ -1
    · rw [if_pos c2]; exact pB c2
    rw [if_neg c2] at hok ⊢
    by_cases c3 : 1 ≤ b.2
    · rw [if_pos c3]; exact pA c3
    rw [if_neg c3] at hok
    exact Bool.noConfusion hok
end Go.Proofs.Ytpegiljajlljkaa
