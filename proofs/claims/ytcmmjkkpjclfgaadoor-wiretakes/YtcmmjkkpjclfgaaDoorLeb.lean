import Derived.Test.YtcmmjkkpjclfgaaDoorLays
namespace Go.Proofs.YtcmmjkkpjclfgaaDoor
open Go.RowKit

theorem numGo_leb : ∀ (bs : List UInt8) (i m n s : Nat), i ≤ 9 → m < 128 ^ i → numGo bs i m = (n, s, 0) →
    i < s ∧ s - i ≤ bs.length ∧ n < 18446744073709551616 ∧ ∃ q, n = m + q * 128 ^ i ∧ (0 < i → q ≠ 0) ∧ lebF (9 - i) q = bs.take (s - i)
  | [], i, m, n, s, _, _, h => by simp [numGo] at h
  | c :: r, i, m, n, s, hi, hm, h => by
    have hc := c.toNat_lt
    have e0 : UInt8.ofNat c.toNat = c := UInt8.ofNat_toNat
    unfold numGo at h
    split at h
    · simp at h
    · rename_i h9
      split at h
      · rename_i h128
        have hi8 : i ≤ 8 := by
          rcases Nat.lt_or_ge i 9 with h | h
          · omega
          · have : i = 9 := by omega
            exact absurd ⟨this, by omega⟩ h9
        obtain ⟨a1, a2, a3, q', a4, a5, a6⟩ := numGo_leb r (i + 1) _ n s (by omega) (num_lt m i c.toNat hm) h
        have hq := a5 (by omega)
        refine ⟨by omega, by simp; omega, a3, c.toNat % 128 + 128 * q', ?_, fun _ => by omega, ?_⟩
        · rw [a4, Nat.pow_succ, Nat.add_mul]
          have : q' * (128 ^ i * 128) = 128 * q' * 128 ^ i := by rw [Nat.mul_comm 128 q', Nat.mul_assoc, Nat.mul_comm 128]
          omega
        · obtain ⟨f, hf⟩ : ∃ f, 9 - i = f + 1 := ⟨8 - i, by omega⟩
          have hf' : 9 - (i + 1) = f := by omega
          obtain ⟨t, ht⟩ : ∃ t, s - i = t + 1 := ⟨s - i - 1, by omega⟩
          have ht' : s - (i + 1) = t := by omega
          rw [hf'] at a6
          rw [ht'] at a6
          rw [hf, ht, lebF_big f _ (by omega), List.take_succ_cons]
          have e1 : (c.toNat % 128 + 128 * q') / 128 = q' := by omega
          have e2 : (c.toNat % 128 + 128 * q') % 128 + 128 = c.toNat := by omega
          rw [e1, e2, e0, a6]
      · rename_i h128
        split at h
        · simp at h
        · rename_i hz
          simp only [Prod.mk.injEq] at h
          obtain ⟨rfl, rfl, _⟩ := h
          refine ⟨by omega, by simp, ?_, c.toNat % 128, rfl, ?_, ?_⟩
          · by_cases h : i = 9
            · have h1 : c.toNat = 1 := by
                rcases Nat.eq_or_lt_of_le (Nat.le_refl c.toNat) with _ | h'
                · by_cases hh : c.toNat = 1
                  · exact hh
                  · exact absurd ⟨h, hh⟩ h9
                · omega
              subst h
              rw [h1]
              simp at hm ⊢
              omega
            · have h1 := num_le i (by omega)
              have h2 : c.toNat % 128 * 128 ^ i ≤ 127 * 72057594037927936 := Nat.mul_le_mul (by omega) h1
              omega
          · intro h0 he
            exact hz ⟨by omega, h0⟩
          · have e1 : c.toNat % 128 = c.toNat := by omega
            have e2 : i + 1 - i = 1 := by omega
            rw [e1, e2, lebF_small _ _ (by omega), e0]
            simp
theorem numGo_once {xs : List UInt8} {n s : Nat} (h : numGo xs 0 0 = (n, s, 0)) : s ≤ xs.length ∧ n < 18446744073709551616 ∧ lebF 9 n = xs.take s := by
  obtain ⟨_, a2, a3, q, a4, _, a6⟩ := numGo_leb xs 0 0 n s (by omega) (by simp) h
  have e : n = q := by simpa using a4
  subst e
  exact ⟨by omega, a3, by simpa using a6⟩
theorem numGo_bad : ∀ (bs : List UInt8) (i m n s k : Nat), numGo bs i m = (n, s, k) → k ≠ 0 → n = 0 ∧ s = 0
  | [], _, _, _, _, _, h, _ => by simp [numGo] at h; omega
  | c :: r, i, m, n, s, k, h, hk => by
    unfold numGo at h
    split at h
    · simp at h; omega
    · split at h
      · exact numGo_bad r _ _ n s k h hk
      · split at h
        · simp at h; omega
        · simp at h; omega
theorem zig_zag (n : Nat) (h : n < 18446744073709551616) : zig (zag n) = n ∧ -9223372036854775808 ≤ zag n ∧ zag n < 9223372036854775808 := by
  unfold zag
  split
  · unfold zig
    split <;> omega
  · unfold zig
    split <;> omega
end Go.Proofs.YtcmmjkkpjclfgaaDoor
