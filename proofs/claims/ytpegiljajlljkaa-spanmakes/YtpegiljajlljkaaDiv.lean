import Derived.Test.YtpegiljajlljkaaDivA
import Derived.Test.YtpegiljajlljkaaDivB
import Derived.Test.YtpegiljajlljkaaDivC
import Derived.Test.YtpegiljajlljkaaDivD
import Derived.Test.YtpegiljajlljkaaDivE
namespace Go.Proofs.Ytpegiljajlljkaa
open Go.RowKit
set_option maxRecDepth 100000 in
set_option maxHeartbeats 16000000 in
theorem div_none (a b : Int × Int) (w : World) (h1 : ¬ b.1 ≤ -1) (h2 : ¬ 1 ≤ b.2) : Calls Try.prog 49 #[.agg #[.int .i64 a.1, .int .i64 a.2], .agg #[.int .i64 b.1, .int .i64 b.2]] w fun e w' => e = .returned (.tuple #[.agg #[.int .i64 ((quotsP a b).1).1, .int .i64 ((quotsP a b).1).2], .bool (quotsP a b).2]) ∧ Below w.heap.size w w' := by
  have HQ : Hid (quotsP a b = ((0, 0), false)) := by unfold Hid quotsP; rw [if_neg (by omega), if_neg (by omega), if_neg h1, if_neg h2]
  have f1 : decide (b.1 < 0) = false := by simp; omega
  have f2 : decide (0 < b.2) = false := by simp; omega
  clear h1 h2
  generalize quotsP a b = r at *
  go_enter Try.func49, Try.ntmps49
  go_wp2_with fail
  refine bodyPost_ret (by simp [results, Try.results49, go_sem, *]; try rfl) rfl ⟨?_, (by repeat (first | exact Below.refl _ _ | (refine Below.drew ?_) | (refine below_drewN ?_ _) | (refine Below.setCell ?_ (by first | omega | (simp; done) | (simp; omega)) _) | (refine Below.alloc ?_ (by first | omega | (simp; done) | (simp; omega)) _) | (refine Below.trans ?_ (Below.mono (by assumption) (by first | omega | (simp; done) | (simp; omega))))))⟩
  rw [HQ.out]
set_option maxRecDepth 100000 in
set_option maxHeartbeats 16000000 in
theorem div_all1 (a b : Int × Int) (w : World) (hA : a.1 = -9223372036854775808 ∧ b.1 ≤ -1 ∧ -1 ≤ b.2) (h2 : 1 ≤ b.2) : Calls Try.prog 49 #[.agg #[.int .i64 a.1, .int .i64 a.2], .agg #[.int .i64 b.1, .int .i64 b.2]] w fun e w' => e = .returned (.tuple #[.agg #[.int .i64 ((quotsP a b).1).1, .int .i64 ((quotsP a b).1).2], .bool (quotsP a b).2]) ∧ Below w.heap.size w w' := by
  have HQ : Hid (quotsP a b = (allP, true)) := by unfold Hid quotsP; rw [if_pos hA]
  have f1 : decide (b.1 < 0) = true := by simp; omega
  have f2 : decide (0 < b.2) = true := by simp; omega
  have h3 : -1 < b.2 := by omega
  have h4 : b.1 < 1 := by omega
  have hh : hasR b.1 b.2 (-1) = true := by
    unfold hasR
    rw [Bool.and_eq_true, decide_eq_true_eq, decide_eq_true_eq]
    omega
  have hd : (a.1 == -9223372036854775808) = true := by rw [hA.1]; rfl
  clear hA h2
  generalize quotsP a b = r at *
  go_enter Try.func49, Try.ntmps49
  go_upto_region 2 with fail
  go_name_world W hW
  have HX : Hid (D4 w W w.heap.size a b) := by
    rw [← hW]
    exact D4.start w a b
  clear hW
  have b0 := HX.out.xb.1
  have b1 := HX.out.xb.2
  have a0 := HX.out.xa.1
  have a1 := HX.out.xa.2
  obtain ⟨A, hAA⟩ : ∃ A, A = w.heap.size := ⟨_, rfl⟩
  rw [← hAA] at HX b0 b1 a0 a1 ⊢
  have HAA : Hid (A = w.heap.size) := hAA
  clear hAA
  have S0 := St.start W
  have KB : ∀ (wr : World) (v : Value) (ps : List Int), St W wr v ps → Below W.heap.size W wr := fun wr v ps h => h.bel
  go_upto_region 6 with (first | (at_builtin; refine wpList_app2 W _ rfl (.tmp 12) (.tmp 18) rfl _ [] b.1 (-1) S0 rfl rfl (Nat.le_of_ble_eq_true rfl) ?_; intro p2 c2 w2 hS2; clear a0 a1 b0 b1; have HY := HX.out.keep (KB _ _ _ hS2); have b0 := HY.xb.1; have b1 := HY.xb.2; have a0 := HY.xa.1; have a1 := HY.xa.2; clear HY) | (at_builtin; refine wpList_app2 W _ rfl (.tmp 23) (.tmp 29) rfl _ [b.1, (-1)] 1 b.2 hS2 rfl rfl (Nat.le_of_ble_eq_true rfl) ?_; intro p4 c4 w4 hS4; clear a0 a1 b0 b1; have HY := HX.out.keep (KB _ _ _ hS4); have b0 := HY.xb.1; have b1 := HY.xb.2; have a0 := HY.xa.1; have a1 := HY.xa.2; clear HY))
  have HY := hide (HX.out.keep (KB _ _ _ hS4))
  clear HX KB S0 hS2 hS4
  go_wp2_with (first | (go_at_call 20; refine (bel1 (hasr_any _ _ _ _)).mono ?_; rintro e w5 ⟨rfl, hb5⟩; have HZ := hide (HY.out.keep hb5); clear HY hb5 a0 a1 b0 b1) | (go_at_call 18; refine (bel1 (anyr_any _)).mono ?_; rintro e wQ ⟨rfl, hbQ⟩; have KQ := HZ.out.keep hbQ; have r0 := KQ.xr.1.1; have r1 := KQ.xr.1.2; have r2 := KQ.xr.2.1; have r3 := KQ.xr.2.2; have hWQ := KQ.bel; clear KQ hbQ HZ))
  refine bodyPost_ret (by simp [results, Try.results49, go_sem, *]; try rfl) rfl ⟨?_, by rw [← HAA.out]; exact (by repeat (first | assumption | (refine Below.drew ?_) | (refine below_drewN ?_ _) | (refine Below.setCell ?_ (by first | omega | (simp; omega)) _) | (refine Below.alloc ?_ (by first | omega | (simp; omega)) _)))⟩
  rw [HQ.out]
  rfl
set_option maxRecDepth 100000 in
set_option maxHeartbeats 16000000 in
theorem div_all2 (a b : Int × Int) (w : World) (hA : a.1 = -9223372036854775808 ∧ b.1 ≤ -1 ∧ -1 ≤ b.2) (h2 : ¬ 1 ≤ b.2) (h3 : -1 < b.2) : Calls Try.prog 49 #[.agg #[.int .i64 a.1, .int .i64 a.2], .agg #[.int .i64 b.1, .int .i64 b.2]] w fun e w' => e = .returned (.tuple #[.agg #[.int .i64 ((quotsP a b).1).1, .int .i64 ((quotsP a b).1).2], .bool (quotsP a b).2]) ∧ Below w.heap.size w w' := by
  have HQ : Hid (quotsP a b = (allP, true)) := by unfold Hid quotsP; rw [if_pos hA]
  have f1 : decide (b.1 < 0) = true := by simp; omega
  have f2 : decide (0 < b.2) = false := by simp; omega
  have hh : hasR b.1 b.2 (-1) = true := by
    unfold hasR
    rw [Bool.and_eq_true, decide_eq_true_eq, decide_eq_true_eq]
    omega
  have hd : (a.1 == -9223372036854775808) = true := by rw [hA.1]; rfl
  clear hA h2
  generalize quotsP a b = r at *
  go_enter Try.func49, Try.ntmps49
  go_upto_region 2 with fail
  go_name_world W hW
  have HX : Hid (D4 w W w.heap.size a b) := by
    rw [← hW]
    exact D4.start w a b
  clear hW
  have b0 := HX.out.xb.1
  have b1 := HX.out.xb.2
  have a0 := HX.out.xa.1
  have a1 := HX.out.xa.2
  obtain ⟨A, hAA⟩ : ∃ A, A = w.heap.size := ⟨_, rfl⟩
  rw [← hAA] at HX b0 b1 a0 a1 ⊢
  have HAA : Hid (A = w.heap.size) := hAA
  clear hAA
  have S0 := St.start W
  have KB : ∀ (wr : World) (v : Value) (ps : List Int), St W wr v ps → Below W.heap.size W wr := fun wr v ps h => h.bel
  go_upto_region 6 with (at_builtin; refine wpList_app2 W _ rfl (.tmp 12) (.tmp 18) rfl _ [] b.1 (-1) S0 rfl rfl (Nat.le_of_ble_eq_true rfl) ?_; intro p2 c2 w2 hS2; clear a0 a1 b0 b1; have HY := HX.out.keep (KB _ _ _ hS2); have b0 := HY.xb.1; have b1 := HY.xb.2; have a0 := HY.xa.1; have a1 := HY.xa.2; clear HY)
  have HY := hide (HX.out.keep (KB _ _ _ hS2))
  clear HX KB S0 hS2
  go_wp2_with (first | (go_at_call 20; refine (bel1 (hasr_any _ _ _ _)).mono ?_; rintro e w5 ⟨rfl, hb5⟩; have HZ := hide (HY.out.keep hb5); clear HY hb5 a0 a1 b0 b1) | (go_at_call 18; refine (bel1 (anyr_any _)).mono ?_; rintro e wQ ⟨rfl, hbQ⟩; have KQ := HZ.out.keep hbQ; have r0 := KQ.xr.1.1; have r1 := KQ.xr.1.2; have r2 := KQ.xr.2.1; have r3 := KQ.xr.2.2; have hWQ := KQ.bel; clear KQ hbQ HZ))
  refine bodyPost_ret (by simp [results, Try.results49, go_sem, *]; try rfl) rfl ⟨?_, by rw [← HAA.out]; exact (by repeat (first | assumption | (refine Below.drew ?_) | (refine below_drewN ?_ _) | (refine Below.setCell ?_ (by first | omega | (simp; omega)) _) | (refine Below.alloc ?_ (by first | omega | (simp; omega)) _)))⟩
  rw [HQ.out]
  rfl
set_option maxRecDepth 100000 in
set_option maxHeartbeats 16000000 in
theorem div_all3 (a b : Int × Int) (w : World) (hA : a.1 = -9223372036854775808 ∧ b.1 ≤ -1 ∧ -1 ≤ b.2) (h2 : ¬ 1 ≤ b.2) (h3 : ¬ -1 < b.2) : Calls Try.prog 49 #[.agg #[.int .i64 a.1, .int .i64 a.2], .agg #[.int .i64 b.1, .int .i64 b.2]] w fun e w' => e = .returned (.tuple #[.agg #[.int .i64 ((quotsP a b).1).1, .int .i64 ((quotsP a b).1).2], .bool (quotsP a b).2]) ∧ Below w.heap.size w w' := by
  have HQ : Hid (quotsP a b = (allP, true)) := by unfold Hid quotsP; rw [if_pos hA]
  have f1 : decide (b.1 < 0) = true := by simp; omega
  have f2 : decide (0 < b.2) = false := by simp; omega
  have hh : hasR b.1 b.2 (-1) = true := by
    unfold hasR
    rw [Bool.and_eq_true, decide_eq_true_eq, decide_eq_true_eq]
    omega
  have hd : (a.1 == -9223372036854775808) = true := by rw [hA.1]; rfl
  clear hA h2
  generalize quotsP a b = r at *
  go_enter Try.func49, Try.ntmps49
  go_upto_region 2 with fail
  go_name_world W hW
  have HX : Hid (D4 w W w.heap.size a b) := by
    rw [← hW]
    exact D4.start w a b
  clear hW
  have b0 := HX.out.xb.1
  have b1 := HX.out.xb.2
  have a0 := HX.out.xa.1
  have a1 := HX.out.xa.2
  obtain ⟨A, hAA⟩ : ∃ A, A = w.heap.size := ⟨_, rfl⟩
  rw [← hAA] at HX b0 b1 a0 a1 ⊢
  have HAA : Hid (A = w.heap.size) := hAA
  clear hAA
  have S0 := St.start W
  have KB : ∀ (wr : World) (v : Value) (ps : List Int), St W wr v ps → Below W.heap.size W wr := fun wr v ps h => h.bel
  go_upto_region 6 with (at_builtin; refine wpList_app2 W _ rfl (.tmp 12) (.tmp 18) rfl _ [] b.1 b.2 S0 rfl rfl (Nat.le_of_ble_eq_true rfl) ?_; intro p2 c2 w2 hS2; clear a0 a1 b0 b1; have HY := HX.out.keep (KB _ _ _ hS2); have b0 := HY.xb.1; have b1 := HY.xb.2; have a0 := HY.xa.1; have a1 := HY.xa.2; clear HY)
  have HY := hide (HX.out.keep (KB _ _ _ hS2))
  clear HX KB S0 hS2
  go_wp2_with (first | (go_at_call 20; refine (bel1 (hasr_any _ _ _ _)).mono ?_; rintro e w5 ⟨rfl, hb5⟩; have HZ := hide (HY.out.keep hb5); clear HY hb5 a0 a1 b0 b1) | (go_at_call 18; refine (bel1 (anyr_any _)).mono ?_; rintro e wQ ⟨rfl, hbQ⟩; have KQ := HZ.out.keep hbQ; have r0 := KQ.xr.1.1; have r1 := KQ.xr.1.2; have r2 := KQ.xr.2.1; have r3 := KQ.xr.2.2; have hWQ := KQ.bel; clear KQ hbQ HZ))
  refine bodyPost_ret (by simp [results, Try.results49, go_sem, *]; try rfl) rfl ⟨?_, by rw [← HAA.out]; exact (by repeat (first | assumption | (refine Below.drew ?_) | (refine below_drewN ?_ _) | (refine Below.setCell ?_ (by first | omega | (simp; omega)) _) | (refine Below.alloc ?_ (by first | omega | (simp; omega)) _)))⟩
  rw [HQ.out]
  rfl
theorem div_any (a b : Int × Int) (w : World) (ha : Sp a) (hb : Sp b) : Calls Try.prog 49 #[.agg #[.int .i64 a.1, .int .i64 a.2], .agg #[.int .i64 b.1, .int .i64 b.2]] w fun e w' => e = .returned (.tuple #[.agg #[.int .i64 ((quotsP a b).1).1, .int .i64 ((quotsP a b).1).2], .bool (quotsP a b).2]) ∧ Below w.heap.size w w' := by
  by_cases hA : a.1 = -9223372036854775808 ∧ b.1 ≤ -1 ∧ -1 ≤ b.2
  · by_cases h2 : 1 ≤ b.2
    · exact div_all1 a b w hA h2
    · by_cases h3 : -1 < b.2
      · exact div_all2 a b w hA h2 h3
      · exact div_all3 a b w hA h2 h3
  · by_cases h1 : b.1 ≤ -1
    · by_cases h2 : 1 ≤ b.2
      · exact div_both a b w ha hb hA h1 h2 (fun t => hA ⟨t, by omega⟩)
      · by_cases h3 : -1 < b.2
        · exact div_below2 a b w ha hb hA h1 h2 h3 (fun t => hA ⟨t, by omega⟩)
        · by_cases hL : a.1 = -9223372036854775808
          · exact div_below1L a b w ha hb hA h1 h2 h3 hL
          · exact div_below1 a b w ha hb hA h1 h2 h3 hL
    · by_cases h2 : 1 ≤ b.2
      · by_cases h3 : b.1 < 1
        · by_cases hL : a.1 = -9223372036854775808
          · exact div_above2L a b w ha hb hA h1 h2 h3 hL
          · exact div_above2 a b w ha hb hA h1 h2 h3 hL
        · by_cases hL : a.1 = -9223372036854775808
          · exact div_above1L a b w ha hb hA h1 h2 h3 hL
          · exact div_above1 a b w ha hb hA h1 h2 h3 hL
      · exact div_none a b w h1 h2
end Go.Proofs.Ytpegiljajlljkaa
