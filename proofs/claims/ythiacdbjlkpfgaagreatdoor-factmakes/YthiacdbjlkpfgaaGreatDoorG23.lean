import Derived.Test.YthiacdbjlkpfgaaGreatDoorG05
import Derived.Test.YthiacdbjlkpfgaaGreatDoorG18
import Derived.Test.YthiacdbjlkpfgaaGreatDoorG19
import Derived.Test.YthiacdbjlkpfgaaGreatDoorG20
import Derived.Test.YthiacdbjlkpfgaaGreatDoorG21
import Derived.Test.YthiacdbjlkpfgaaGreatDoorG22
import Derived.Test.YthiacdbjlkpfgaaGreatDoorG09
import Derived.Test.YthiacdbjlkpfgaaGreatDoorG13
import Derived.LoopTactic
import Derived.Test.YthiacdbjlkpfgaaGreatDoorG16
namespace Go.Proofs.YthiacdbjlkpfgaaGreatDoor
open Go.RowKit
set_option maxRecDepth 100000 in
set_option maxHeartbeats 16000000 in
theorem div_none (a b : Int × Int) (w : World) (h1 : ¬ b.1 ≤ -1) (h2 : ¬ 1 ≤ b.2) : Calls Tryz.prog 92 #[.agg #[.int .i64 a.1, .int .i64 a.2], .agg #[.int .i64 b.1, .int .i64 b.2]] w fun e w' => e = .returned (.tuple #[.agg #[.int .i64 ((quotsP a b).1).1, .int .i64 ((quotsP a b).1).2], .bool (quotsP a b).2]) ∧ Below w.heap.size w w' := by
  have HQ : Hid (quotsP a b = ((0, 0), false)) := by unfold Hid quotsP; rw [if_neg (by omega), if_neg (by omega), if_neg h1, if_neg h2]
  have f1 : decide (b.1 < 0) = false := by simp; omega
  have f2 : decide (0 < b.2) = false := by simp; omega
  clear h1 h2
  generalize quotsP a b = r at *
  go_enter Tryz.func92, Tryz.ntmps92
  go_wp2_with fail
  refine bodyPost_ret (by simp [results, Tryz.results92, go_sem, *]; try rfl) rfl ⟨?_, (by repeat (first | exact Below.refl _ _ | (refine Below.drew ?_) | (refine below_drewN ?_ _) | (refine Below.setCell ?_ (by first | omega | (simp; done) | (simp; omega)) _) | (refine Below.alloc ?_ (by first | omega | (simp; done) | (simp; omega)) _) | (refine Below.trans ?_ (Below.mono (by assumption) (by first | omega | (simp; done) | (simp; omega))))))⟩
  rw [HQ.out]
set_option maxRecDepth 100000 in
set_option maxHeartbeats 16000000 in
theorem div_all1 (a b : Int × Int) (w : World) (hA : a.1 = -9223372036854775808 ∧ b.1 ≤ -1 ∧ -1 ≤ b.2) (h2 : 1 ≤ b.2) : Calls Tryz.prog 92 #[.agg #[.int .i64 a.1, .int .i64 a.2], .agg #[.int .i64 b.1, .int .i64 b.2]] w fun e w' => e = .returned (.tuple #[.agg #[.int .i64 ((quotsP a b).1).1, .int .i64 ((quotsP a b).1).2], .bool (quotsP a b).2]) ∧ Below w.heap.size w w' := by
  have HQ : Hid (quotsP a b = (allP, true)) := by unfold Hid quotsP; rw [if_pos hA]
  have f1 : decide (b.1 < 0) = true := by simp; omega
  have f2 : decide (0 < b.2) = true := by simp; omega
  have h3 : -1 < b.2 := by omega
  have h4 : b.1 < 1 := by omega
  have hh : hasR b.1 b.2 (-1) = true := by
    unfold hasR
    rw [Bool.and_eq_true, decide_eq_true_eq, decide_eq_true_eq]
    omega
  have hd : (a.1 == -9223372036854775808) = true := by rw [hA.1]; rfl
  clear hA h2
  generalize quotsP a b = r at *
  go_enter Tryz.func92, Tryz.ntmps92
  go_upto_region 2 with fail
  go_name_world W hW
  have HX : Hid (D4 w W w.heap.size a b) := by
    rw [← hW]
    exact D4.start w a b
  clear hW
  have b0 := HX.out.xb.1
  have b1 := HX.out.xb.2
  have a0 := HX.out.xa.1
  have a1 := HX.out.xa.2
  obtain ⟨A, hAA⟩ : ∃ A, A = w.heap.size := ⟨_, rfl⟩
  rw [← hAA] at HX b0 b1 a0 a1 ⊢
  have HAA : Hid (A = w.heap.size) := hAA
  clear hAA
  have S0 := St.start W
  have KB : ∀ (wr : World) (v : Value) (ps : List Int), St W wr v ps → Below W.heap.size W wr := fun wr v ps h => h.bel
  go_upto_region 6 with (first | (at_builtin; refine wpList_app2 W _ rfl (.tmp 12) (.tmp 18) rfl _ [] b.1 (-1) S0 rfl rfl (Nat.le_of_ble_eq_true rfl) ?_; intro p2 c2 w2 hS2; clear a0 a1 b0 b1; have HY := HX.out.keep (KB _ _ _ hS2); have b0 := HY.xb.1; have b1 := HY.xb.2; have a0 := HY.xa.1; have a1 := HY.xa.2; clear HY) | (at_builtin; refine wpList_app2 W _ rfl (.tmp 23) (.tmp 29) rfl _ [b.1, (-1)] 1 b.2 hS2 rfl rfl (Nat.le_of_ble_eq_true rfl) ?_; intro p4 c4 w4 hS4; clear a0 a1 b0 b1; have HY := HX.out.keep (KB _ _ _ hS4); have b0 := HY.xb.1; have b1 := HY.xb.2; have a0 := HY.xa.1; have a1 := HY.xa.2; clear HY))
  have HY := hide (HX.out.keep (KB _ _ _ hS4))
  clear HX KB S0 hS2 hS4
  go_wp2_with (first | (go_at_call 98; refine (bel1 (nhasr_any _ _ _ _)).mono ?_; rintro e w5 ⟨rfl, hb5⟩; have HZ := hide (HY.out.keep hb5); clear HY hb5 a0 a1 b0 b1) | (go_at_call 56; refine (bel1 (nanyr_any _)).mono ?_; rintro e wQ ⟨rfl, hbQ⟩; have KQ := HZ.out.keep hbQ; have r0 := KQ.xr.1.1; have r1 := KQ.xr.1.2; have r2 := KQ.xr.2.1; have r3 := KQ.xr.2.2; have hWQ := KQ.bel; clear KQ hbQ HZ))
  refine bodyPost_ret (by simp [results, Tryz.results92, go_sem, *]; try rfl) rfl ⟨?_, by rw [← HAA.out]; exact (by repeat (first | assumption | (refine Below.drew ?_) | (refine below_drewN ?_ _) | (refine Below.setCell ?_ (by first | omega | (simp; omega)) _) | (refine Below.alloc ?_ (by first | omega | (simp; omega)) _)))⟩
  rw [HQ.out]
  rfl
set_option maxRecDepth 100000 in
set_option maxHeartbeats 16000000 in
theorem div_all2 (a b : Int × Int) (w : World) (hA : a.1 = -9223372036854775808 ∧ b.1 ≤ -1 ∧ -1 ≤ b.2) (h2 : ¬ 1 ≤ b.2) (h3 : -1 < b.2) : Calls Tryz.prog 92 #[.agg #[.int .i64 a.1, .int .i64 a.2], .agg #[.int .i64 b.1, .int .i64 b.2]] w fun e w' => e = .returned (.tuple #[.agg #[.int .i64 ((quotsP a b).1).1, .int .i64 ((quotsP a b).1).2], .bool (quotsP a b).2]) ∧ Below w.heap.size w w' := by
  have HQ : Hid (quotsP a b = (allP, true)) := by unfold Hid quotsP; rw [if_pos hA]
  have f1 : decide (b.1 < 0) = true := by simp; omega
  have f2 : decide (0 < b.2) = false := by simp; omega
  have hh : hasR b.1 b.2 (-1) = true := by
    unfold hasR
    rw [Bool.and_eq_true, decide_eq_true_eq, decide_eq_true_eq]
    omega
  have hd : (a.1 == -9223372036854775808) = true := by rw [hA.1]; rfl
  clear hA h2
  generalize quotsP a b = r at *
  go_enter Tryz.func92, Tryz.ntmps92
  go_upto_region 2 with fail
  go_name_world W hW
  have HX : Hid (D4 w W w.heap.size a b) := by
    rw [← hW]
    exact D4.start w a b
  clear hW
  have b0 := HX.out.xb.1
  have b1 := HX.out.xb.2
  have a0 := HX.out.xa.1
  have a1 := HX.out.xa.2
  obtain ⟨A, hAA⟩ : ∃ A, A = w.heap.size := ⟨_, rfl⟩
  rw [← hAA] at HX b0 b1 a0 a1 ⊢
  have HAA : Hid (A = w.heap.size) := hAA
  clear hAA
  have S0 := St.start W
  have KB : ∀ (wr : World) (v : Value) (ps : List Int), St W wr v ps → Below W.heap.size W wr := fun wr v ps h => h.bel
  go_upto_region 6 with (at_builtin; refine wpList_app2 W _ rfl (.tmp 12) (.tmp 18) rfl _ [] b.1 (-1) S0 rfl rfl (Nat.le_of_ble_eq_true rfl) ?_; intro p2 c2 w2 hS2; clear a0 a1 b0 b1; have HY := HX.out.keep (KB _ _ _ hS2); have b0 := HY.xb.1; have b1 := HY.xb.2; have a0 := HY.xa.1; have a1 := HY.xa.2; clear HY)
  have HY := hide (HX.out.keep (KB _ _ _ hS2))
  clear HX KB S0 hS2
  go_wp2_with (first | (go_at_call 98; refine (bel1 (nhasr_any _ _ _ _)).mono ?_; rintro e w5 ⟨rfl, hb5⟩; have HZ := hide (HY.out.keep hb5); clear HY hb5 a0 a1 b0 b1) | (go_at_call 56; refine (bel1 (nanyr_any _)).mono ?_; rintro e wQ ⟨rfl, hbQ⟩; have KQ := HZ.out.keep hbQ; have r0 := KQ.xr.1.1; have r1 := KQ.xr.1.2; have r2 := KQ.xr.2.1; have r3 := KQ.xr.2.2; have hWQ := KQ.bel; clear KQ hbQ HZ))
  refine bodyPost_ret (by simp [results, Tryz.results92, go_sem, *]; try rfl) rfl ⟨?_, by rw [← HAA.out]; exact (by repeat (first | assumption | (refine Below.drew ?_) | (refine below_drewN ?_ _) | (refine Below.setCell ?_ (by first | omega | (simp; omega)) _) | (refine Below.alloc ?_ (by first | omega | (simp; omega)) _)))⟩
  rw [HQ.out]
  rfl
set_option maxRecDepth 100000 in
set_option maxHeartbeats 16000000 in
theorem div_all3 (a b : Int × Int) (w : World) (hA : a.1 = -9223372036854775808 ∧ b.1 ≤ -1 ∧ -1 ≤ b.2) (h2 : ¬ 1 ≤ b.2) (h3 : ¬ -1 < b.2) : Calls Tryz.prog 92 #[.agg #[.int .i64 a.1, .int .i64 a.2], .agg #[.int .i64 b.1, .int .i64 b.2]] w fun e w' => e = .returned (.tuple #[.agg #[.int .i64 ((quotsP a b).1).1, .int .i64 ((quotsP a b).1).2], .bool (quotsP a b).2]) ∧ Below w.heap.size w w' := by
  have HQ : Hid (quotsP a b = (allP, true)) := by unfold Hid quotsP; rw [if_pos hA]
  have f1 : decide (b.1 < 0) = true := by simp; omega
  have f2 : decide (0 < b.2) = false := by simp; omega
  have hh : hasR b.1 b.2 (-1) = true := by
    unfold hasR
    rw [Bool.and_eq_true, decide_eq_true_eq, decide_eq_true_eq]
    omega
  have hd : (a.1 == -9223372036854775808) = true := by rw [hA.1]; rfl
  clear hA h2
  generalize quotsP a b = r at *
  go_enter Tryz.func92, Tryz.ntmps92
  go_upto_region 2 with fail
  go_name_world W hW
  have HX : Hid (D4 w W w.heap.size a b) := by
    rw [← hW]
    exact D4.start w a b
  clear hW
  have b0 := HX.out.xb.1
  have b1 := HX.out.xb.2
  have a0 := HX.out.xa.1
  have a1 := HX.out.xa.2
  obtain ⟨A, hAA⟩ : ∃ A, A = w.heap.size := ⟨_, rfl⟩
  rw [← hAA] at HX b0 b1 a0 a1 ⊢
  have HAA : Hid (A = w.heap.size) := hAA
  clear hAA
  have S0 := St.start W
  have KB : ∀ (wr : World) (v : Value) (ps : List Int), St W wr v ps → Below W.heap.size W wr := fun wr v ps h => h.bel
  go_upto_region 6 with (at_builtin; refine wpList_app2 W _ rfl (.tmp 12) (.tmp 18) rfl _ [] b.1 b.2 S0 rfl rfl (Nat.le_of_ble_eq_true rfl) ?_; intro p2 c2 w2 hS2; clear a0 a1 b0 b1; have HY := HX.out.keep (KB _ _ _ hS2); have b0 := HY.xb.1; have b1 := HY.xb.2; have a0 := HY.xa.1; have a1 := HY.xa.2; clear HY)
  have HY := hide (HX.out.keep (KB _ _ _ hS2))
  clear HX KB S0 hS2
  go_wp2_with (first | (go_at_call 98; refine (bel1 (nhasr_any _ _ _ _)).mono ?_; rintro e w5 ⟨rfl, hb5⟩; have HZ := hide (HY.out.keep hb5); clear HY hb5 a0 a1 b0 b1) | (go_at_call 56; refine (bel1 (nanyr_any _)).mono ?_; rintro e wQ ⟨rfl, hbQ⟩; have KQ := HZ.out.keep hbQ; have r0 := KQ.xr.1.1; have r1 := KQ.xr.1.2; have r2 := KQ.xr.2.1; have r3 := KQ.xr.2.2; have hWQ := KQ.bel; clear KQ hbQ HZ))
  refine bodyPost_ret (by simp [results, Tryz.results92, go_sem, *]; try rfl) rfl ⟨?_, by rw [← HAA.out]; exact (by repeat (first | assumption | (refine Below.drew ?_) | (refine below_drewN ?_ _) | (refine Below.setCell ?_ (by first | omega | (simp; omega)) _) | (refine Below.alloc ?_ (by first | omega | (simp; omega)) _)))⟩
  rw [HQ.out]
  rfl
theorem div_any (a b : Int × Int) (w : World) (ha : Sp a) (hb : Sp b) : Calls Tryz.prog 92 #[.agg #[.int .i64 a.1, .int .i64 a.2], .agg #[.int .i64 b.1, .int .i64 b.2]] w fun e w' => e = .returned (.tuple #[.agg #[.int .i64 ((quotsP a b).1).1, .int .i64 ((quotsP a b).1).2], .bool (quotsP a b).2]) ∧ Below w.heap.size w w' := by
  by_cases hA : a.1 = -9223372036854775808 ∧ b.1 ≤ -1 ∧ -1 ≤ b.2
  · by_cases h2 : 1 ≤ b.2
    · exact div_all1 a b w hA h2
    · by_cases h3 : -1 < b.2
      · exact div_all2 a b w hA h2 h3
      · exact div_all3 a b w hA h2 h3
  · by_cases h1 : b.1 ≤ -1
    · by_cases h2 : 1 ≤ b.2
      · exact div_both a b w ha hb hA h1 h2 (fun t => hA ⟨t, by omega⟩)
      · by_cases h3 : -1 < b.2
        · exact div_below2 a b w ha hb hA h1 h2 h3 (fun t => hA ⟨t, by omega⟩)
        · by_cases hL : a.1 = -9223372036854775808
          · exact div_below1L a b w ha hb hA h1 h2 h3 hL
          · exact div_below1 a b w ha hb hA h1 h2 h3 hL
    · by_cases h2 : 1 ≤ b.2
      · by_cases h3 : b.1 < 1
        · by_cases hL : a.1 = -9223372036854775808
          · exact div_above2L a b w ha hb hA h1 h2 h3 hL
          · exact div_above2 a b w ha hb hA h1 h2 h3 hL
        · by_cases hL : a.1 = -9223372036854775808
          · exact div_above1L a b w ha hb hA h1 h2 h3 hL
          · exact div_above1 a b w ha hb hA h1 h2 h3 hL
      · exact div_none a b w h1 h2
end Go.Proofs.YthiacdbjlkpfgaaGreatDoor
namespace Go.Proofs.YthiacdbjlkpfgaaGreatDoor
open Go.RowKit
set_option maxHeartbeats 4000000 in
theorem andr_any (a b : Int × Int) (w : World) : Calls Tryz.prog 94 #[.agg #[.int .i64 a.1, .int .i64 a.2], .agg #[.int .i64 b.1, .int .i64 b.2]] w fun e w' => e = .returned (.agg #[.int .i64 (andsP a b).1, .int .i64 (andsP a b).2]) ∧ Below w.heap.size w w' := by
  by_cases h1 : 0 ≤ a.1 <;> by_cases h2 : 0 ≤ b.1 <;> by_cases h3 : a.2 < 0 <;> by_cases h4 : b.2 < 0 <;>
  · go_enter Tryz.func94, Tryz.ntmps94
    go_wp2
    all_goals (refine bodyPost_ret (by simp [results, Tryz.results94, go_sem]; try rfl) rfl ⟨?_, (by repeat (first | exact Below.refl _ _ | (refine Below.drew ?_) | (refine below_drewN ?_ _) | (refine Below.setCell ?_ (by first | omega | (simp; done) | (simp; omega)) _) | (refine Below.alloc ?_ (by first | omega | (simp; done) | (simp; omega)) _) | (refine Below.trans ?_ (Below.mono (by assumption) (by first | omega | (simp; done) | (simp; omega))))))⟩; exact ret_s (by unfold andsP; repeat' (first | rfl | omega | (dsimp only; omega) | split | (exfalso; omega))) (by unfold andsP; repeat' (first | rfl | omega | (dsimp only; omega) | split | (exfalso; omega))))
end Go.Proofs.YthiacdbjlkpfgaaGreatDoor
namespace Go.Proofs.YthiacdbjlkpfgaaGreatDoor
open Go.RowKit
theorem two_pow (k : Nat) : ((2 : Int) ^ k) = ((2 ^ k : Nat) : Int) := by push_cast; rfl
theorem ones_more (n : Int) (k : Nat) (h0 : 0 ≤ n) (hl : (2 : Int) ^ k - 1 < n) : k < bitLen n.toNat := by
  rw [two_pow] at hl
  by_cases h : k < bitLen n.toNat
  · exact h
  exfalso
  have e := (bitLen_spec n.toNat).1
  have e2 : 2 ^ bitLen n.toNat ≤ 2 ^ k := Nat.pow_le_pow_right (by omega) (by omega)
  omega
theorem ones_enough (n : Int) (k : Nat) (hk : k ≤ bitLen n.toNat) (hl : ¬ (2 : Int) ^ k - 1 < n) : k = bitLen n.toNat := by
  rw [two_pow] at hl
  by_cases h : k = bitLen n.toNat
  · exact h
  exfalso
  have hn : n.toNat ≠ 0 := by
    intro h0
    rw [h0] at hk h
    simp [bitLen] at hk h
    omega
  have e := (bitLen_spec n.toNat).2 hn
  have e2 : 2 ^ k ≤ 2 ^ (bitLen n.toNat - 1) := Nat.pow_le_pow_right (by omega) (by omega)
  omega
theorem ones_bound (k : Nat) (hk : k ≤ 63) : 0 ≤ (2 : Int) ^ k - 1 ∧ (2 : Int) ^ k - 1 ≤ 9223372036854775807 := by
  have e3 : 2 ^ k ≤ 2 ^ 63 := Nat.pow_le_pow_right (by omega) hk
  have e4 : 0 < 2 ^ k := Nat.pow_pos (by omega)
  rw [two_pow]
  omega
theorem onesr_any (n : Int) (w : World) (h0 : 0 ≤ n) (h1 : n ≤ 9223372036854775807) : Calls Tryz.prog 113 #[.int .i64 n] w fun e w' => e = .returned (.int .i64 (onesI n)) ∧ w' = w := by
  have hl := bitLen_63 n h1
  go_enter Tryz.func113, Tryz.ntmps113
  go_wp2
  go_loop [3] (fun p => ∃ k : Nat, k ≤ bitLen n.toNat ∧ p = .int .i64 (2 ^ k - 1)) (fun p => (n - intOf p).toNat)
  case atStart => exact ⟨0, Nat.zero_le _, by simp⟩
  case round =>
    obtain ⟨k, hk, rfl⟩ := hrel
    have hb := ones_bound k (by omega)
    by_cases hlt : (2 : Int) ^ k - 1 < n
    · have hm := ones_more n k h0 hlt
      have HB : Hid (2 * ((2 : Int) ^ k - 1) + 1 = 2 ^ (k + 1) - 1 ∧ k < bitLen n.toNat) := ⟨by rw [Int.pow_succ]; omega, hm⟩
      have hb2 := ones_bound (k + 1) (by omega)
      rw [← HB.out.1] at hb2
      obtain ⟨b1, b2⟩ := hb
      obtain ⟨b3, b4⟩ := hb2
      clear hm
      generalize hP : (2 : Int) ^ k - 1 = p at *
      have HP : Hid ((2 : Int) ^ k - 1 = p) := hP
      clear hP
      go_wp2
      go_round
      case rel => exact ⟨k + 1, HB.out.2, by rw [HB.out.1]⟩
      case measure => simp [intOf]; omega
    · have HB : Hid (k = bitLen n.toNat) := ones_enough n k hk hlt
      have HC : Hid ((2 : Int) ^ k - 1 = onesI n) := by unfold Hid onesI; rw [HB.out]
      go_wp2
      go_ret
      exact ⟨ret_i HC.out.symm, rfl⟩
end Go.Proofs.YthiacdbjlkpfgaaGreatDoor
namespace Go.Proofs.YthiacdbjlkpfgaaGreatDoor
open Go.RowKit
set_option maxHeartbeats 8000000 in
theorem xorr_pp1 (a b : Int × Int) (w : World) (ha : Sp a) (hb : Sp b) (h1 : 0 ≤ a.1) (h2 : 0 ≤ b.1) (h3 : a.2 < b.2) : Calls Tryz.prog 95 #[.agg #[.int .i64 a.1, .int .i64 a.2], .agg #[.int .i64 b.1, .int .i64 b.2]] w fun e w' => e = .returned (.agg #[.int .i64 (xorsP a b).1, .int .i64 (xorsP a b).2]) ∧ Below w.heap.size w w' := by
  unfold Sp at ha hb
  obtain ⟨a1, a2, a3⟩ := ha
  obtain ⟨b1, b2, b3⟩ := hb
  have HX : Hid (xorsP a b = (0, onesI b.2)) := by
    unfold Hid xorsP
    rw [if_pos ⟨h1, h2⟩, Int.max_eq_right (by omega)]
  have B := ones_bd (b.2) (by omega)
  go_enter Tryz.func95, Tryz.ntmps95
  go_wp2_with (first | (go_at_call 56; refine (nanyr_any _).mono ?_; rintro e w1 ⟨rfl, o1, rfl⟩) | (go_at_call 113; refine (onesr_any _ _ (by omega) (by omega)).mono ?_; rintro e w1 ⟨rfl, rfl⟩))
  all_goals (refine bodyPost_ret (by simp [results, Tryz.results95, go_sem]; try rfl) rfl ⟨?_, (by repeat (first | exact Below.refl _ _ | (refine Below.drew ?_) | (refine below_drewN ?_ _) | (refine Below.setCell ?_ (by first | omega | (simp; done) | (simp; omega)) _) | (refine Below.alloc ?_ (by first | omega | (simp; done) | (simp; omega)) _) | (refine Below.trans ?_ (Below.mono (by assumption) (by first | omega | (simp; done) | (simp; omega))))))⟩; rw [HX.out])
set_option maxHeartbeats 8000000 in
theorem xorr_pp2 (a b : Int × Int) (w : World) (ha : Sp a) (hb : Sp b) (h1 : 0 ≤ a.1) (h2 : 0 ≤ b.1) (h3 : ¬ a.2 < b.2) : Calls Tryz.prog 95 #[.agg #[.int .i64 a.1, .int .i64 a.2], .agg #[.int .i64 b.1, .int .i64 b.2]] w fun e w' => e = .returned (.agg #[.int .i64 (xorsP a b).1, .int .i64 (xorsP a b).2]) ∧ Below w.heap.size w w' := by
  unfold Sp at ha hb
  obtain ⟨a1, a2, a3⟩ := ha
  obtain ⟨b1, b2, b3⟩ := hb
  have HX : Hid (xorsP a b = (0, onesI a.2)) := by
    unfold Hid xorsP
    rw [if_pos ⟨h1, h2⟩, Int.max_eq_left (by omega)]
  have B := ones_bd (a.2) (by omega)
  go_enter Tryz.func95, Tryz.ntmps95
  go_wp2_with (first | (go_at_call 56; refine (nanyr_any _).mono ?_; rintro e w1 ⟨rfl, o1, rfl⟩) | (go_at_call 113; refine (onesr_any _ _ (by omega) (by omega)).mono ?_; rintro e w1 ⟨rfl, rfl⟩))
  all_goals (refine bodyPost_ret (by simp [results, Tryz.results95, go_sem]; try rfl) rfl ⟨?_, (by repeat (first | exact Below.refl _ _ | (refine Below.drew ?_) | (refine below_drewN ?_ _) | (refine Below.setCell ?_ (by first | omega | (simp; done) | (simp; omega)) _) | (refine Below.alloc ?_ (by first | omega | (simp; done) | (simp; omega)) _) | (refine Below.trans ?_ (Below.mono (by assumption) (by first | omega | (simp; done) | (simp; omega))))))⟩; rw [HX.out])
set_option maxHeartbeats 8000000 in
theorem xorr_nn1 (a b : Int × Int) (w : World) (ha : Sp a) (hb : Sp b) (h1 : a.2 < 0) (h2 : b.2 < 0) (h3 : -1 - a.1 < -1 - b.1) : Calls Tryz.prog 95 #[.agg #[.int .i64 a.1, .int .i64 a.2], .agg #[.int .i64 b.1, .int .i64 b.2]] w fun e w' => e = .returned (.agg #[.int .i64 (xorsP a b).1, .int .i64 (xorsP a b).2]) ∧ Below w.heap.size w w' := by
  unfold Sp at ha hb
  obtain ⟨a1, a2, a3⟩ := ha
  obtain ⟨b1, b2, b3⟩ := hb
  have HX : Hid (xorsP a b = (0, onesI (-1 - b.1))) := by
    unfold Hid xorsP
    rw [if_neg (by omega), if_pos ⟨h1, h2⟩, Int.max_eq_right (by omega)]
  have B := ones_bd (-1 - b.1) (by omega)
  have h4 : ¬ 0 ≤ a.1 := by omega
  have h5 : ¬ 0 ≤ b.1 := by omega
  go_enter Tryz.func95, Tryz.ntmps95
  go_wp2_with (first | (go_at_call 56; refine (nanyr_any _).mono ?_; rintro e w1 ⟨rfl, o1, rfl⟩) | (go_at_call 113; refine (onesr_any _ _ (by omega) (by omega)).mono ?_; rintro e w1 ⟨rfl, rfl⟩))
  all_goals (refine bodyPost_ret (by simp [results, Tryz.results95, go_sem]; try rfl) rfl ⟨?_, (by repeat (first | exact Below.refl _ _ | (refine Below.drew ?_) | (refine below_drewN ?_ _) | (refine Below.setCell ?_ (by first | omega | (simp; done) | (simp; omega)) _) | (refine Below.alloc ?_ (by first | omega | (simp; done) | (simp; omega)) _) | (refine Below.trans ?_ (Below.mono (by assumption) (by first | omega | (simp; done) | (simp; omega))))))⟩; rw [HX.out])
set_option maxHeartbeats 8000000 in
theorem xorr_nn2 (a b : Int × Int) (w : World) (ha : Sp a) (hb : Sp b) (h1 : a.2 < 0) (h2 : b.2 < 0) (h3 : ¬ -1 - a.1 < -1 - b.1) : Calls Tryz.prog 95 #[.agg #[.int .i64 a.1, .int .i64 a.2], .agg #[.int .i64 b.1, .int .i64 b.2]] w fun e w' => e = .returned (.agg #[.int .i64 (xorsP a b).1, .int .i64 (xorsP a b).2]) ∧ Below w.heap.size w w' := by
  unfold Sp at ha hb
  obtain ⟨a1, a2, a3⟩ := ha
  obtain ⟨b1, b2, b3⟩ := hb
  have HX : Hid (xorsP a b = (0, onesI (-1 - a.1))) := by
    unfold Hid xorsP
    rw [if_neg (by omega), if_pos ⟨h1, h2⟩, Int.max_eq_left (by omega)]
  have B := ones_bd (-1 - a.1) (by omega)
  have h4 : ¬ 0 ≤ a.1 := by omega
  have h5 : ¬ 0 ≤ b.1 := by omega
  go_enter Tryz.func95, Tryz.ntmps95
  go_wp2_with (first | (go_at_call 56; refine (nanyr_any _).mono ?_; rintro e w1 ⟨rfl, o1, rfl⟩) | (go_at_call 113; refine (onesr_any _ _ (by omega) (by omega)).mono ?_; rintro e w1 ⟨rfl, rfl⟩))
  all_goals (refine bodyPost_ret (by simp [results, Tryz.results95, go_sem]; try rfl) rfl ⟨?_, (by repeat (first | exact Below.refl _ _ | (refine Below.drew ?_) | (refine below_drewN ?_ _) | (refine Below.setCell ?_ (by first | omega | (simp; done) | (simp; omega)) _) | (refine Below.alloc ?_ (by first | omega | (simp; done) | (simp; omega)) _) | (refine Below.trans ?_ (Below.mono (by assumption) (by first | omega | (simp; done) | (simp; omega))))))⟩; rw [HX.out])
end Go.Proofs.YthiacdbjlkpfgaaGreatDoor
namespace Go.Proofs.YthiacdbjlkpfgaaGreatDoor
open Go.RowKit
set_option maxHeartbeats 8000000 in
theorem xorr_np1 (a b : Int × Int) (w : World) (ha : Sp a) (hb : Sp b) (h1 : a.2 < 0) (h2 : 0 ≤ b.1) (h3 : -1 - a.1 < b.2) : Calls Tryz.prog 95 #[.agg #[.int .i64 a.1, .int .i64 a.2], .agg #[.int .i64 b.1, .int .i64 b.2]] w fun e w' => e = .returned (.agg #[.int .i64 (xorsP a b).1, .int .i64 (xorsP a b).2]) ∧ Below w.heap.size w w' := by
  unfold Sp at ha hb
  obtain ⟨a1, a2, a3⟩ := ha
  obtain ⟨b1, b2, b3⟩ := hb
  have HX : Hid (xorsP a b = (-1 - onesI b.2, -1)) := by
    unfold Hid xorsP
    rw [if_neg (by omega), if_neg (by omega), if_pos ⟨h1, h2⟩, Int.max_eq_right (by omega)]
  have B := ones_bd (b.2) (by omega)
  have h4 : ¬ 0 ≤ a.1 := by omega
  have h5 : ¬ b.2 < 0 := by omega
  go_enter Tryz.func95, Tryz.ntmps95
  go_wp2_with (first | (go_at_call 56; refine (nanyr_any _).mono ?_; rintro e w1 ⟨rfl, o1, rfl⟩) | (go_at_call 113; refine (onesr_any _ _ (by omega) (by omega)).mono ?_; rintro e w1 ⟨rfl, rfl⟩))
  all_goals (refine bodyPost_ret (by simp [results, Tryz.results95, go_sem]; try rfl) rfl ⟨?_, (by repeat (first | exact Below.refl _ _ | (refine Below.drew ?_) | (refine below_drewN ?_ _) | (refine Below.setCell ?_ (by first | omega | (simp; done) | (simp; omega)) _) | (refine Below.alloc ?_ (by first | omega | (simp; done) | (simp; omega)) _) | (refine Below.trans ?_ (Below.mono (by assumption) (by first | omega | (simp; done) | (simp; omega))))))⟩; rw [HX.out])
set_option maxHeartbeats 8000000 in
theorem xorr_np2 (a b : Int × Int) (w : World) (ha : Sp a) (hb : Sp b) (h1 : a.2 < 0) (h2 : 0 ≤ b.1) (h3 : ¬ -1 - a.1 < b.2) : Calls Tryz.prog 95 #[.agg #[.int .i64 a.1, .int .i64 a.2], .agg #[.int .i64 b.1, .int .i64 b.2]] w fun e w' => e = .returned (.agg #[.int .i64 (xorsP a b).1, .int .i64 (xorsP a b).2]) ∧ Below w.heap.size w w' := by
  unfold Sp at ha hb
  obtain ⟨a1, a2, a3⟩ := ha
  obtain ⟨b1, b2, b3⟩ := hb
  have HX : Hid (xorsP a b = (-1 - onesI (-1 - a.1), -1)) := by
    unfold Hid xorsP
    rw [if_neg (by omega), if_neg (by omega), if_pos ⟨h1, h2⟩, Int.max_eq_left (by omega)]
  have B := ones_bd (-1 - a.1) (by omega)
  have h4 : ¬ 0 ≤ a.1 := by omega
  have h5 : ¬ b.2 < 0 := by omega
  go_enter Tryz.func95, Tryz.ntmps95
  go_wp2_with (first | (go_at_call 56; refine (nanyr_any _).mono ?_; rintro e w1 ⟨rfl, o1, rfl⟩) | (go_at_call 113; refine (onesr_any _ _ (by omega) (by omega)).mono ?_; rintro e w1 ⟨rfl, rfl⟩))
  all_goals (refine bodyPost_ret (by simp [results, Tryz.results95, go_sem]; try rfl) rfl ⟨?_, (by repeat (first | exact Below.refl _ _ | (refine Below.drew ?_) | (refine below_drewN ?_ _) | (refine Below.setCell ?_ (by first | omega | (simp; done) | (simp; omega)) _) | (refine Below.alloc ?_ (by first | omega | (simp; done) | (simp; omega)) _) | (refine Below.trans ?_ (Below.mono (by assumption) (by first | omega | (simp; done) | (simp; omega))))))⟩; rw [HX.out])
set_option maxHeartbeats 8000000 in
theorem xorr_pn1 (a b : Int × Int) (w : World) (ha : Sp a) (hb : Sp b) (h1 : 0 ≤ a.1) (h2 : b.2 < 0) (h3 : ¬ a.2 < -1 - b.1) : Calls Tryz.prog 95 #[.agg #[.int .i64 a.1, .int .i64 a.2], .agg #[.int .i64 b.1, .int .i64 b.2]] w fun e w' => e = .returned (.agg #[.int .i64 (xorsP a b).1, .int .i64 (xorsP a b).2]) ∧ Below w.heap.size w w' := by
  unfold Sp at ha hb
  obtain ⟨a1, a2, a3⟩ := ha
  obtain ⟨b1, b2, b3⟩ := hb
  have HX : Hid (xorsP a b = (-1 - onesI a.2, -1)) := by
    unfold Hid xorsP
    rw [if_neg (by omega), if_neg (by omega), if_neg (by omega), if_pos ⟨h1, h2⟩, Int.max_eq_left (by omega)]
  have B := ones_bd (a.2) (by omega)
  have h4 : ¬ 0 ≤ b.1 := by omega
  have h5 : ¬ a.2 < 0 := by omega
  go_enter Tryz.func95, Tryz.ntmps95
  go_wp2_with (first | (go_at_call 56; refine (nanyr_any _).mono ?_; rintro e w1 ⟨rfl, o1, rfl⟩) | (go_at_call 113; refine (onesr_any _ _ (by omega) (by omega)).mono ?_; rintro e w1 ⟨rfl, rfl⟩))
  all_goals (refine bodyPost_ret (by simp [results, Tryz.results95, go_sem]; try rfl) rfl ⟨?_, (by repeat (first | exact Below.refl _ _ | (refine Below.drew ?_) | (refine below_drewN ?_ _) | (refine Below.setCell ?_ (by first | omega | (simp; done) | (simp; omega)) _) | (refine Below.alloc ?_ (by first | omega | (simp; done) | (simp; omega)) _) | (refine Below.trans ?_ (Below.mono (by assumption) (by first | omega | (simp; done) | (simp; omega))))))⟩; rw [HX.out])
set_option maxHeartbeats 8000000 in
theorem xorr_pn2 (a b : Int × Int) (w : World) (ha : Sp a) (hb : Sp b) (h1 : 0 ≤ a.1) (h2 : b.2 < 0) (h3 : a.2 < -1 - b.1) : Calls Tryz.prog 95 #[.agg #[.int .i64 a.1, .int .i64 a.2], .agg #[.int .i64 b.1, .int .i64 b.2]] w fun e w' => e = .returned (.agg #[.int .i64 (xorsP a b).1, .int .i64 (xorsP a b).2]) ∧ Below w.heap.size w w' := by
  unfold Sp at ha hb
  obtain ⟨a1, a2, a3⟩ := ha
  obtain ⟨b1, b2, b3⟩ := hb
  have HX : Hid (xorsP a b = (-1 - onesI (-1 - b.1), -1)) := by
    unfold Hid xorsP
    rw [if_neg (by omega), if_neg (by omega), if_neg (by omega), if_pos ⟨h1, h2⟩, Int.max_eq_right (by omega)]
  have B := ones_bd (-1 - b.1) (by omega)
  have h4 : ¬ 0 ≤ b.1 := by omega
  have h5 : ¬ a.2 < 0 := by omega
  go_enter Tryz.func95, Tryz.ntmps95
  go_wp2_with (first | (go_at_call 56; refine (nanyr_any _).mono ?_; rintro e w1 ⟨rfl, o1, rfl⟩) | (go_at_call 113; refine (onesr_any _ _ (by omega) (by omega)).mono ?_; rintro e w1 ⟨rfl, rfl⟩))
  all_goals (refine bodyPost_ret (by simp [results, Tryz.results95, go_sem]; try rfl) rfl ⟨?_, (by repeat (first | exact Below.refl _ _ | (refine Below.drew ?_) | (refine below_drewN ?_ _) | (refine Below.setCell ?_ (by first | omega | (simp; done) | (simp; omega)) _) | (refine Below.alloc ?_ (by first | omega | (simp; done) | (simp; omega)) _) | (refine Below.trans ?_ (Below.mono (by assumption) (by first | omega | (simp; done) | (simp; omega))))))⟩; rw [HX.out])
end Go.Proofs.YthiacdbjlkpfgaaGreatDoor
namespace Go.Proofs.YthiacdbjlkpfgaaGreatDoor
open Go.RowKit
set_option maxHeartbeats 8000000 in
theorem xorr_al1 (a b : Int × Int) (w : World) (ha : Sp a) (hb : Sp b) (h1 : a.1 < 0) (h2 : 0 ≤ a.2) : Calls Tryz.prog 95 #[.agg #[.int .i64 a.1, .int .i64 a.2], .agg #[.int .i64 b.1, .int .i64 b.2]] w fun e w' => e = .returned (.agg #[.int .i64 (xorsP a b).1, .int .i64 (xorsP a b).2]) ∧ Below w.heap.size w w' := by
  unfold Sp at ha hb
  obtain ⟨a1, a2, a3⟩ := ha
  obtain ⟨b1, b2, b3⟩ := hb
  have HX : Hid (xorsP a b = (-9223372036854775808, 9223372036854775807)) := by
    unfold Hid xorsP
    rw [if_neg (by omega), if_neg (by omega), if_neg (by omega), if_neg (by omega)]; rfl
  have h8 : ¬ 0 ≤ a.1 := by omega
  have h9 : ¬ a.2 < 0 := by omega
  rcases (by omega : (0 ≤ b.1 ∧ ¬ b.2 < 0) ∨ (¬ 0 ≤ b.1 ∧ b.2 < 0) ∨ (¬ 0 ≤ b.1 ∧ ¬ b.2 < 0)) with ⟨h3, h4⟩ | ⟨h3, h4⟩ | ⟨h3, h4⟩ <;>
  · go_enter Tryz.func95, Tryz.ntmps95
    go_wp2_with (first | (go_at_call 56; refine (nanyr_any _).mono ?_; rintro e w1 ⟨rfl, o1, rfl⟩) | (go_at_call 113; refine (onesr_any _ _ (by omega) (by omega)).mono ?_; rintro e w1 ⟨rfl, rfl⟩))
    all_goals (refine bodyPost_ret (by simp [results, Tryz.results95, go_sem]; try rfl) rfl ⟨?_, (by repeat (first | exact Below.refl _ _ | (refine Below.drew ?_) | (refine below_drewN ?_ _) | (refine Below.setCell ?_ (by first | omega | (simp; done) | (simp; omega)) _) | (refine Below.alloc ?_ (by first | omega | (simp; done) | (simp; omega)) _) | (refine Below.trans ?_ (Below.mono (by assumption) (by first | omega | (simp; done) | (simp; omega))))))⟩; rw [HX.out])
set_option maxHeartbeats 8000000 in
theorem xorr_al2 (a b : Int × Int) (w : World) (ha : Sp a) (hb : Sp b) (h0 : ¬ (a.1 < 0 ∧ 0 ≤ a.2)) (h1 : b.1 < 0) (h2 : 0 ≤ b.2) : Calls Tryz.prog 95 #[.agg #[.int .i64 a.1, .int .i64 a.2], .agg #[.int .i64 b.1, .int .i64 b.2]] w fun e w' => e = .returned (.agg #[.int .i64 (xorsP a b).1, .int .i64 (xorsP a b).2]) ∧ Below w.heap.size w w' := by
  unfold Sp at ha hb
  obtain ⟨a1, a2, a3⟩ := ha
  obtain ⟨b1, b2, b3⟩ := hb
  have HX : Hid (xorsP a b = (-9223372036854775808, 9223372036854775807)) := by
    unfold Hid xorsP
    rw [if_neg (by omega), if_neg (by omega), if_neg (by omega), if_neg (by omega)]; rfl
  have h8 : ¬ 0 ≤ b.1 := by omega
  have h9 : ¬ b.2 < 0 := by omega
  rcases (by omega : (0 ≤ a.1 ∧ ¬ a.2 < 0) ∨ (¬ 0 ≤ a.1 ∧ a.2 < 0)) with ⟨h3, h4⟩ | ⟨h3, h4⟩ <;>
  · go_enter Tryz.func95, Tryz.ntmps95
    go_wp2_with (first | (go_at_call 56; refine (nanyr_any _).mono ?_; rintro e w1 ⟨rfl, o1, rfl⟩) | (go_at_call 113; refine (onesr_any _ _ (by omega) (by omega)).mono ?_; rintro e w1 ⟨rfl, rfl⟩))
    all_goals (refine bodyPost_ret (by simp [results, Tryz.results95, go_sem]; try rfl) rfl ⟨?_, (by repeat (first | exact Below.refl _ _ | (refine Below.drew ?_) | (refine below_drewN ?_ _) | (refine Below.setCell ?_ (by first | omega | (simp; done) | (simp; omega)) _) | (refine Below.alloc ?_ (by first | omega | (simp; done) | (simp; omega)) _) | (refine Below.trans ?_ (Below.mono (by assumption) (by first | omega | (simp; done) | (simp; omega))))))⟩; rw [HX.out])
end Go.Proofs.YthiacdbjlkpfgaaGreatDoor
namespace Go.Proofs.YthiacdbjlkpfgaaGreatDoor
open Go.RowKit
theorem xorr_any (a b : Int × Int) (w : World) (ha : Sp a) (hb : Sp b) : Calls Tryz.prog 95 #[.agg #[.int .i64 a.1, .int .i64 a.2], .agg #[.int .i64 b.1, .int .i64 b.2]] w fun e w' => e = .returned (.agg #[.int .i64 (xorsP a b).1, .int .i64 (xorsP a b).2]) ∧ Below w.heap.size w w' := by
  have hb' := hb
  unfold Sp at hb'
  by_cases k1 : a.1 < 0 ∧ 0 ≤ a.2
  · exact xorr_al1 a b w ha hb k1.1 k1.2
  by_cases k2 : b.1 < 0 ∧ 0 ≤ b.2
  · exact xorr_al2 a b w ha hb k1 k2.1 k2.2
  have ha' := ha
  unfold Sp at ha'
  by_cases k3 : a.2 < 0
  · by_cases k4 : b.2 < 0
    · by_cases k5 : -1 - a.1 < -1 - b.1
      · exact xorr_nn1 a b w ha hb k3 k4 k5
      · exact xorr_nn2 a b w ha hb k3 k4 k5
    · by_cases k5 : -1 - a.1 < b.2
      · exact xorr_np1 a b w ha hb k3 (by omega) k5
      · exact xorr_np2 a b w ha hb k3 (by omega) k5
  · by_cases k4 : b.2 < 0
    · by_cases k5 : a.2 < -1 - b.1
      · exact xorr_pn2 a b w ha hb (by omega) k4 k5
      · exact xorr_pn1 a b w ha hb (by omega) k4 k5
    · by_cases k5 : a.2 < b.2
      · exact xorr_pp1 a b w ha hb (by omega) (by omega) k5
      · exact xorr_pp2 a b w ha hb (by omega) (by omega) k5
end Go.Proofs.YthiacdbjlkpfgaaGreatDoor
namespace Go.Proofs.YthiacdbjlkpfgaaGreatDoor
open Go.RowKit
set_option maxRecDepth 100000 in
set_option maxHeartbeats 16000000 in
theorem twor_7 (a b : Int × Int) (w : World) (ha : Sp a) (hb : Sp b) : Calls Tryz.prog 40 #[.int .i64 7, .agg #[.int .i64 a.1, .int .i64 a.2], .agg #[.int .i64 b.1, .int .i64 b.2]] w fun e w' => e = .returned (.tuple #[.agg #[.int .i64 ((twoP 7 a b).1).1, .int .i64 ((twoP 7 a b).1).2], .bool (twoP 7 a b).2]) ∧ Below w.heap.size w w' := by
  have e : twoP 7 a b = quotsP a b := by unfold twoP; simp only [Int.reduceEq, if_false, if_true]
  have hC := fun w => div_any a b w ha hb
  rw [e]
  generalize quotsP a b = r at *
  clear e ha hb
  go_enter Tryz.func40, Tryz.ntmps40
  go_wp2_with (go_at_call 92; refine (hC _).mono ?_; rintro e wQ ⟨rfl, hbQ⟩; obtain ⟨hcQ, hfQ⟩ := bcell hbQ; have hzQ := hbQ.size; simp at hzQ)
  clear hC
  refine bodyPost_ret (by simp [results, Tryz.results40, go_sem, *]; try rfl) rfl ⟨?_, (by repeat (first | exact Below.refl _ _ | (refine Below.drew ?_) | (refine below_drewN ?_ _) | (refine Below.setCell ?_ (by first | omega | (simp; done) | (simp; omega)) _) | (refine Below.alloc ?_ (by first | omega | (simp; done) | (simp; omega)) _) | (refine Below.trans ?_ (Below.mono (by assumption) (by first | omega | (simp; done) | (simp; omega))))))⟩
  rfl
set_option maxRecDepth 100000 in
set_option maxHeartbeats 16000000 in
theorem twor_8 (a b : Int × Int) (w : World) (ha : Sp a) (hb : Sp b) : Calls Tryz.prog 40 #[.int .i64 8, .agg #[.int .i64 a.1, .int .i64 a.2], .agg #[.int .i64 b.1, .int .i64 b.2]] w fun e w' => e = .returned (.tuple #[.agg #[.int .i64 ((twoP 8 a b).1).1, .int .i64 ((twoP 8 a b).1).2], .bool (twoP 8 a b).2]) ∧ Below w.heap.size w w' := by
  have e : twoP 8 a b = remsP a b := by unfold twoP; simp only [Int.reduceEq, if_false, if_true]
  have hC := fun w => remr_any a.1 a.2 b.1 b.2 w ha hb
  rw [e]
  generalize remsP a b = r at *
  clear e ha hb
  go_enter Tryz.func40, Tryz.ntmps40
  go_wp2_with (go_at_call 93; refine (hC _).mono ?_; rintro e wQ ⟨rfl, hbQ⟩; obtain ⟨hcQ, hfQ⟩ := bcell hbQ; have hzQ := hbQ.size; simp at hzQ)
  clear hC
  refine bodyPost_ret (by simp [results, Tryz.results40, go_sem, *]; try rfl) rfl ⟨?_, (by repeat (first | exact Below.refl _ _ | (refine Below.drew ?_) | (refine below_drewN ?_ _) | (refine Below.setCell ?_ (by first | omega | (simp; done) | (simp; omega)) _) | (refine Below.alloc ?_ (by first | omega | (simp; done) | (simp; omega)) _) | (refine Below.trans ?_ (Below.mono (by assumption) (by first | omega | (simp; done) | (simp; omega))))))⟩
  rfl
set_option maxRecDepth 100000 in
set_option maxHeartbeats 16000000 in
theorem twor_9 (a b : Int × Int) (w : World) (_ha : Sp a) (_hb : Sp b) : Calls Tryz.prog 40 #[.int .i64 9, .agg #[.int .i64 a.1, .int .i64 a.2], .agg #[.int .i64 b.1, .int .i64 b.2]] w fun e w' => e = .returned (.tuple #[.agg #[.int .i64 ((twoP 9 a b).1).1, .int .i64 ((twoP 9 a b).1).2], .bool (twoP 9 a b).2]) ∧ Below w.heap.size w w' := by
  have e : twoP 9 a b = (andsP a b, true) := by unfold twoP; simp only [Int.reduceEq, if_false, if_true]
  have hC := fun w => andr_any a b w
  rw [e]
  dsimp only
  generalize andsP a b = r at *
  clear e _ha _hb
  go_enter Tryz.func40, Tryz.ntmps40
  go_wp2_with (go_at_call 94; refine (hC _).mono ?_; rintro e wQ ⟨rfl, hbQ⟩; obtain ⟨hcQ, hfQ⟩ := bcell hbQ; have hzQ := hbQ.size; simp at hzQ)
  clear hC
  refine bodyPost_ret (by simp [results, Tryz.results40, go_sem, *]; try rfl) rfl ⟨?_, (by repeat (first | exact Below.refl _ _ | (refine Below.drew ?_) | (refine below_drewN ?_ _) | (refine Below.setCell ?_ (by first | omega | (simp; done) | (simp; omega)) _) | (refine Below.alloc ?_ (by first | omega | (simp; done) | (simp; omega)) _) | (refine Below.trans ?_ (Below.mono (by assumption) (by first | omega | (simp; done) | (simp; omega))))))⟩
  rfl
set_option maxRecDepth 100000 in
set_option maxHeartbeats 16000000 in
theorem twor_10 (a b : Int × Int) (w : World) (ha : Sp a) (hb : Sp b) : Calls Tryz.prog 40 #[.int .i64 10, .agg #[.int .i64 a.1, .int .i64 a.2], .agg #[.int .i64 b.1, .int .i64 b.2]] w fun e w' => e = .returned (.tuple #[.agg #[.int .i64 ((twoP 10 a b).1).1, .int .i64 ((twoP 10 a b).1).2], .bool (twoP 10 a b).2]) ∧ Below w.heap.size w w' := by
  have e : twoP 10 a b = (xorsP a b, true) := by unfold twoP; simp only [Int.reduceEq, if_false, if_true]
  have hC := fun w => xorr_any a b w ha hb
  rw [e]
  dsimp only
  generalize xorsP a b = r at *
  clear e ha hb
  go_enter Tryz.func40, Tryz.ntmps40
  go_wp2_with (go_at_call 95; refine (hC _).mono ?_; rintro e wQ ⟨rfl, hbQ⟩; obtain ⟨hcQ, hfQ⟩ := bcell hbQ; have hzQ := hbQ.size; simp at hzQ)
  clear hC
  refine bodyPost_ret (by simp [results, Tryz.results40, go_sem, *]; try rfl) rfl ⟨?_, (by repeat (first | exact Below.refl _ _ | (refine Below.drew ?_) | (refine below_drewN ?_ _) | (refine Below.setCell ?_ (by first | omega | (simp; done) | (simp; omega)) _) | (refine Below.alloc ?_ (by first | omega | (simp; done) | (simp; omega)) _) | (refine Below.trans ?_ (Below.mono (by assumption) (by first | omega | (simp; done) | (simp; omega))))))⟩
  rfl
end Go.Proofs.YthiacdbjlkpfgaaGreatDoor
namespace Go.Proofs.YthiacdbjlkpfgaaGreatDoor
open Go.RowKit
set_option maxRecDepth 100000 in
set_option maxHeartbeats 16000000 in
theorem twor_11 (a b : Int × Int) (w : World) (_ha : Sp a) (_hb : Sp b) : Calls Tryz.prog 40 #[.int .i64 11, .agg #[.int .i64 a.1, .int .i64 a.2], .agg #[.int .i64 b.1, .int .i64 b.2]] w fun e w' => e = .returned (.tuple #[.agg #[.int .i64 ((twoP 11 a b).1).1, .int .i64 ((twoP 11 a b).1).2], .bool (twoP 11 a b).2]) ∧ Below w.heap.size w w' := by
  have e : twoP 11 a b = (lessP a b, true) := by unfold twoP; simp only [Int.reduceEq, if_false, if_true]
  rw [e]
  dsimp only
  clear e _ha _hb
  unfold lessP
  by_cases h1 : a.2 < b.1
  · rw [if_pos h1]
    go_enter Tryz.func40, Tryz.ntmps40
    go_wp2_with fail
    refine bodyPost_ret (by simp [results, Tryz.results40, go_sem, *]; try rfl) rfl ⟨?_, (by repeat (first | exact Below.refl _ _ | (refine Below.drew ?_) | (refine below_drewN ?_ _) | (refine Below.setCell ?_ (by first | omega | (simp; done) | (simp; omega)) _) | (refine Below.alloc ?_ (by first | omega | (simp; done) | (simp; omega)) _) | (refine Below.trans ?_ (Below.mono (by assumption) (by first | omega | (simp; done) | (simp; omega))))))⟩
    rfl
  · rw [if_neg h1]
    by_cases h2 : b.2 ≤ a.1
    · rw [if_pos h2]
      go_enter Tryz.func40, Tryz.ntmps40
      go_wp2_with fail
      refine bodyPost_ret (by simp [results, Tryz.results40, go_sem, *]; try rfl) rfl ⟨?_, (by repeat (first | exact Below.refl _ _ | (refine Below.drew ?_) | (refine below_drewN ?_ _) | (refine Below.setCell ?_ (by first | omega | (simp; done) | (simp; omega)) _) | (refine Below.alloc ?_ (by first | omega | (simp; done) | (simp; omega)) _) | (refine Below.trans ?_ (Below.mono (by assumption) (by first | omega | (simp; done) | (simp; omega))))))⟩
      rfl
    · rw [if_neg h2]
      go_enter Tryz.func40, Tryz.ntmps40
      go_wp2_with fail
      refine bodyPost_ret (by simp [results, Tryz.results40, go_sem, *]; try rfl) rfl ⟨?_, (by repeat (first | exact Below.refl _ _ | (refine Below.drew ?_) | (refine below_drewN ?_ _) | (refine Below.setCell ?_ (by first | omega | (simp; done) | (simp; omega)) _) | (refine Below.alloc ?_ (by first | omega | (simp; done) | (simp; omega)) _) | (refine Below.trans ?_ (Below.mono (by assumption) (by first | omega | (simp; done) | (simp; omega))))))⟩
      rfl
end Go.Proofs.YthiacdbjlkpfgaaGreatDoor
