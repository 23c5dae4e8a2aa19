import Derived.Test.YthiacdbjlkpfgaaDoorG05
import Derived.Test.YthiacdbjlkpfgaaDoorG07
import Derived.Lib.ItoaWalk
import Derived.Deep.CutBlock
namespace Go.Proofs.YthiacdbjlkpfgaaDoor
open Go.RowKit
set_option maxRecDepth 100000 in
set_option maxHeartbeats 16000000 in
theorem quots_none (a b : Int × Int) (w : World) (_ha : Sp a) (hb : Sp b) (hA : ¬ (a.1 = -9223372036854775808 ∧ b.1 ≤ -1 ∧ -1 ≤ b.2)) (h1 : ¬ b.1 ≤ -1) (h2 : ¬ 1 ≤ b.2) : Calls Tryd.prog 59 #[.agg #[.int .i64 a.1, .int .i64 a.2], .agg #[.int .i64 b.1, .int .i64 b.2]] w fun e w' => e = .returned (.tuple #[.agg #[.int .i64 ((quotsP a b).1).1, .int .i64 ((quotsP a b).1).2], .bool (quotsP a b).2]) ∧ Below w.heap.size w w' := by
  have HQ : Hid (quotsP a b = ((0, 0), false)) := by unfold Hid quotsP; rw [if_neg hA, if_neg (by omega), if_neg h1, if_neg h2]
  have hM1 := meet_nobelow b hb h1
  have hM2 := meet_noabove b hb h2
  clear hb
  by_cases hL : a.1 = -9223372036854775808
  · have hh : hasR b.1 b.2 (-1) = false := by
      unfold hasR
      rw [Bool.and_eq_false_iff, decide_eq_false_iff_not, decide_eq_false_iff_not]
      omega
    have hd : (a.1 == -9223372036854775808) = true := by rw [hL]; rfl
    clear hA hL
    clear h1 h2
    go_enter Tryd.func59, Tryd.ntmps59
    go_upto_region 3 with ((go_at_call 27; refine (nhas_any _ _ _ _).mono ?_; rintro e w1 ⟨rfl, o1, rfl⟩))
    go_name_world W hW
    have HX : Hid (Q4 w W w.heap.size a b) := by
      rw [← hW]
      first | exact Q4.start w a b | exact (Q4.start w a b).keep (by exact (by repeat (first | exact Below.refl _ _ | (refine Below.drew ?_) | (refine below_drewN ?_ _) | (refine Below.setCell ?_ (by first | omega | (simp; done) | (simp; omega)) _) | (refine Below.alloc ?_ (by first | omega | (simp; done) | (simp; omega)) _) | (refine Below.trans ?_ (Below.mono (by assumption) (by first | omega | (simp; done) | (simp; omega)))))))
    clear hW
    have b0 := HX.out.xb.1
    have b1 := HX.out.xb.2
    obtain ⟨A, hAA⟩ : ∃ A, A = w.heap.size := ⟨_, rfl⟩
    rw [← hAA] at HX b0 b1 ⊢
    have HAA : Hid (A = w.heap.size) := hAA
    clear hAA
    go_upto_region 4 with (go_at_call 66; refine (nmeet_any b (_, _) _).mono ?_; rw [hM1]; rintro e wA ⟨rfl, hA⟩)
    go_name_world W2 hW2
    have HX2 : Hid (Q4 w W2 A a b ∧ Bx W2 wA.heap.size 0 0 ∧ A + 1 + 1 < wA.heap.size) := by
      rw [← hW2]
      exact ⟨(HX.out.keep hA.bel).keep ((Below.refl _ _).alloc (Nat.le_refl _) _), Bx.new _ _ _ _, Nat.lt_of_lt_of_le HX.out.xr.1.lt hA.bel.size⟩
    clear hW2 hA HX b0 b1
    generalize wA.heap.size = T6 at *
    have b0 := HX2.out.1.xb.1
    have b1 := HX2.out.1.xb.2
    go_upto_region 5 with (go_at_call 66; refine (nmeet_any b (_, _) _).mono ?_; rw [hM2]; rintro e wB ⟨rfl, hB⟩)
    go_name_world W3 hW3
    have HX3 : Hid (Q4 w W3 A a b ∧ Bx W3 T6 0 0 ∧ Bx W3 wB.heap.size 0 0 ∧ A + 1 + 1 < T6 ∧ A + 1 + 1 < wB.heap.size) := by
      rw [← hW3]
      exact ⟨(HX2.out.1.keep hB.bel).keep ((Below.refl _ _).alloc (Nat.le_refl _) _), (HX2.out.2.1.keep hB.bel).keep ((Below.refl _ _).alloc (Nat.le_refl _) _), Bx.new _ _ _ _, HX2.out.2.2, Nat.lt_of_lt_of_le HX2.out.1.xr.1.lt hB.bel.size⟩
    clear hW3 hB HX2 b0 b1 hM1 hM2
    generalize wB.heap.size = T8 at *
    have r0 := HX3.out.1.xr.1.1
    have r1 := HX3.out.1.xr.1.2
    have r2 := HX3.out.1.xr.2.1
    have r3 := HX3.out.1.xr.2.2
    have hWQ := HX3.out.1.bel
    go_wp2
    refine bodyPost_ret (by simp [results, Tryd.results59, go_sem, *]; try rfl) rfl ⟨?_, by rw [← HAA.out]; exact (by repeat (first | assumption | (refine Below.drew ?_) | (refine below_drewN ?_ _) | (refine Below.setCell ?_ (by first | omega | (simp; omega)) _) | (refine Below.alloc ?_ (by first | omega | (simp; omega)) _)))⟩
    rw [HQ.out]
  · clear hA
    clear h1 h2
    go_enter Tryd.func59, Tryd.ntmps59
    go_upto_region 3 with ((go_at_call 27; refine (nhas_any _ _ _ _).mono ?_; rintro e w1 ⟨rfl, o1, rfl⟩))
    go_name_world W hW
    have HX : Hid (Q4 w W w.heap.size a b) := by
      rw [← hW]
      first | exact Q4.start w a b | exact (Q4.start w a b).keep (by exact (by repeat (first | exact Below.refl _ _ | (refine Below.drew ?_) | (refine below_drewN ?_ _) | (refine Below.setCell ?_ (by first | omega | (simp; done) | (simp; omega)) _) | (refine Below.alloc ?_ (by first | omega | (simp; done) | (simp; omega)) _) | (refine Below.trans ?_ (Below.mono (by assumption) (by first | omega | (simp; done) | (simp; omega)))))))
    clear hW
    have b0 := HX.out.xb.1
    have b1 := HX.out.xb.2
    obtain ⟨A, hAA⟩ : ∃ A, A = w.heap.size := ⟨_, rfl⟩
    rw [← hAA] at HX b0 b1 ⊢
    have HAA : Hid (A = w.heap.size) := hAA
    clear hAA
    go_upto_region 4 with (go_at_call 66; refine (nmeet_any b (_, _) _).mono ?_; rw [hM1]; rintro e wA ⟨rfl, hA⟩)
    go_name_world W2 hW2
    have HX2 : Hid (Q4 w W2 A a b ∧ Bx W2 wA.heap.size 0 0 ∧ A + 1 + 1 < wA.heap.size) := by
      rw [← hW2]
      exact ⟨(HX.out.keep hA.bel).keep ((Below.refl _ _).alloc (Nat.le_refl _) _), Bx.new _ _ _ _, Nat.lt_of_lt_of_le HX.out.xr.1.lt hA.bel.size⟩
    clear hW2 hA HX b0 b1
    generalize wA.heap.size = T6 at *
    have b0 := HX2.out.1.xb.1
    have b1 := HX2.out.1.xb.2
    go_upto_region 5 with (go_at_call 66; refine (nmeet_any b (_, _) _).mono ?_; rw [hM2]; rintro e wB ⟨rfl, hB⟩)
    go_name_world W3 hW3
    have HX3 : Hid (Q4 w W3 A a b ∧ Bx W3 T6 0 0 ∧ Bx W3 wB.heap.size 0 0 ∧ A + 1 + 1 < T6 ∧ A + 1 + 1 < wB.heap.size) := by
      rw [← hW3]
      exact ⟨(HX2.out.1.keep hB.bel).keep ((Below.refl _ _).alloc (Nat.le_refl _) _), (HX2.out.2.1.keep hB.bel).keep ((Below.refl _ _).alloc (Nat.le_refl _) _), Bx.new _ _ _ _, HX2.out.2.2, Nat.lt_of_lt_of_le HX2.out.1.xr.1.lt hB.bel.size⟩
    clear hW3 hB HX2 b0 b1 hM1 hM2
    generalize wB.heap.size = T8 at *
    have r0 := HX3.out.1.xr.1.1
    have r1 := HX3.out.1.xr.1.2
    have r2 := HX3.out.1.xr.2.1
    have r3 := HX3.out.1.xr.2.2
    have hWQ := HX3.out.1.bel
    go_wp2
    refine bodyPost_ret (by simp [results, Tryd.results59, go_sem, *]; try rfl) rfl ⟨?_, by rw [← HAA.out]; exact (by repeat (first | assumption | (refine Below.drew ?_) | (refine below_drewN ?_ _) | (refine Below.setCell ?_ (by first | omega | (simp; omega)) _) | (refine Below.alloc ?_ (by first | omega | (simp; omega)) _)))⟩
    rw [HQ.out]
end Go.Proofs.YthiacdbjlkpfgaaDoor
namespace Go.Proofs.YthiacdbjlkpfgaaDoor
open Go.RowKit
set_option maxRecDepth 100000 in
set_option maxHeartbeats 16000000 in
theorem quots_below (a b : Int × Int) (w : World) (ha : Sp a) (hb : Sp b) (hA : ¬ (a.1 = -9223372036854775808 ∧ b.1 ≤ -1 ∧ -1 ≤ b.2)) (h1 : b.1 ≤ -1) (h2 : ¬ 1 ≤ b.2) : Calls Tryd.prog 59 #[.agg #[.int .i64 a.1, .int .i64 a.2], .agg #[.int .i64 b.1, .int .i64 b.2]] w fun e w' => e = .returned (.tuple #[.agg #[.int .i64 ((quotsP a b).1).1, .int .i64 ((quotsP a b).1).2], .bool (quotsP a b).2]) ∧ Below w.heap.size w w' := by
  have HQ : Hid (quotsP a b = (quoP a (belowP b), true)) := by unfold Hid quotsP; rw [if_neg hA, if_neg (by omega), if_pos h1]
  have hM1 := meet_below b hb h1
  have hM2 := meet_noabove b hb h2
  have hQ := fun w => quo_any a (belowP b) w ha (sp_below b hb h1).1 (Or.inr (sp_below b hb h1).2) (by unfold belowP Sp at *; dsimp only at *; omega)
  generalize quoP a (belowP b) = r at *
  generalize belowP b = pt at *
  clear ha hb
  by_cases hL : a.1 = -9223372036854775808
  · have hh : hasR b.1 b.2 (-1) = false := by
      unfold hasR
      rw [Bool.and_eq_false_iff, decide_eq_false_iff_not, decide_eq_false_iff_not]
      omega
    have hd : (a.1 == -9223372036854775808) = true := by rw [hL]; rfl
    clear hA hL
    clear h1 h2
    go_enter Tryd.func59, Tryd.ntmps59
    go_upto_region 3 with ((go_at_call 27; refine (nhas_any _ _ _ _).mono ?_; rintro e w1 ⟨rfl, o1, rfl⟩))
    go_name_world W hW
    have HX : Hid (Q4 w W w.heap.size a b) := by
      rw [← hW]
      first | exact Q4.start w a b | exact (Q4.start w a b).keep (by exact (by repeat (first | exact Below.refl _ _ | (refine Below.drew ?_) | (refine below_drewN ?_ _) | (refine Below.setCell ?_ (by first | omega | (simp; done) | (simp; omega)) _) | (refine Below.alloc ?_ (by first | omega | (simp; done) | (simp; omega)) _) | (refine Below.trans ?_ (Below.mono (by assumption) (by first | omega | (simp; done) | (simp; omega)))))))
    clear hW
    have b0 := HX.out.xb.1
    have b1 := HX.out.xb.2
    obtain ⟨A, hAA⟩ : ∃ A, A = w.heap.size := ⟨_, rfl⟩
    rw [← hAA] at HX b0 b1 ⊢
    have HAA : Hid (A = w.heap.size) := hAA
    clear hAA
    go_upto_region 4 with (go_at_call 66; refine (nmeet_any b (_, _) _).mono ?_; rw [hM1]; rintro e wA ⟨rfl, hA⟩)
    go_name_world W2 hW2
    have HX2 : Hid (Q4 w W2 A a b ∧ Bx W2 wA.heap.size pt.1 pt.2 ∧ A + 1 + 1 < wA.heap.size) := by
      rw [← hW2]
      exact ⟨(HX.out.keep hA.bel).keep ((Below.refl _ _).alloc (Nat.le_refl _) _), Bx.new _ _ _ _, Nat.lt_of_lt_of_le HX.out.xr.1.lt hA.bel.size⟩
    clear hW2 hA HX b0 b1
    generalize wA.heap.size = T6 at *
    have b0 := HX2.out.1.xb.1
    have b1 := HX2.out.1.xb.2
    go_upto_region 5 with (go_at_call 66; refine (nmeet_any b (_, _) _).mono ?_; rw [hM2]; rintro e wB ⟨rfl, hB⟩)
    go_name_world W3 hW3
    have HX3 : Hid (Q4 w W3 A a b ∧ Bx W3 T6 pt.1 pt.2 ∧ Bx W3 wB.heap.size 0 0 ∧ A + 1 + 1 < T6 ∧ A + 1 + 1 < wB.heap.size) := by
      rw [← hW3]
      exact ⟨(HX2.out.1.keep hB.bel).keep ((Below.refl _ _).alloc (Nat.le_refl _) _), (HX2.out.2.1.keep hB.bel).keep ((Below.refl _ _).alloc (Nat.le_refl _) _), Bx.new _ _ _ _, HX2.out.2.2, Nat.lt_of_lt_of_le HX2.out.1.xr.1.lt hB.bel.size⟩
    clear hW3 hB HX2 b0 b1 hM1 hM2
    generalize wB.heap.size = T8 at *
    have a0 := HX3.out.1.xa.1
    have a1 := HX3.out.1.xa.2
    have t0 := HX3.out.2.1.1
    have t1 := HX3.out.2.1.2
    go_wp2_with (go_at_call 84; refine (hQ _).mono ?_; rintro e wQ ⟨rfl, hbQ⟩; have KQ := HX3.out.1.keep hbQ; have r0 := KQ.xr.1.1; have r1 := KQ.xr.1.2; have r2 := KQ.xr.2.1; have r3 := KQ.xr.2.2; have hWQ := KQ.bel; clear KQ hbQ)
    clear hQ a0 a1 t0 t1 HX3
    refine bodyPost_ret (by simp [results, Tryd.results59, go_sem, *]; try rfl) rfl ⟨?_, by rw [← HAA.out]; exact (by repeat (first | assumption | (refine Below.drew ?_) | (refine below_drewN ?_ _) | (refine Below.setCell ?_ (by first | omega | (simp; omega)) _) | (refine Below.alloc ?_ (by first | omega | (simp; omega)) _)))⟩
    rw [HQ.out]
  · clear hA
    clear h1 h2
    go_enter Tryd.func59, Tryd.ntmps59
    go_upto_region 3 with ((go_at_call 27; refine (nhas_any _ _ _ _).mono ?_; rintro e w1 ⟨rfl, o1, rfl⟩))
    go_name_world W hW
    have HX : Hid (Q4 w W w.heap.size a b) := by
      rw [← hW]
      first | exact Q4.start w a b | exact (Q4.start w a b).keep (by exact (by repeat (first | exact Below.refl _ _ | (refine Below.drew ?_) | (refine below_drewN ?_ _) | (refine Below.setCell ?_ (by first | omega | (simp; done) | (simp; omega)) _) | (refine Below.alloc ?_ (by first | omega | (simp; done) | (simp; omega)) _) | (refine Below.trans ?_ (Below.mono (by assumption) (by first | omega | (simp; done) | (simp; omega)))))))
    clear hW
    have b0 := HX.out.xb.1
    have b1 := HX.out.xb.2
    obtain ⟨A, hAA⟩ : ∃ A, A = w.heap.size := ⟨_, rfl⟩
    rw [← hAA] at HX b0 b1 ⊢
    have HAA : Hid (A = w.heap.size) := hAA
    clear hAA
    go_upto_region 4 with (go_at_call 66; refine (nmeet_any b (_, _) _).mono ?_; rw [hM1]; rintro e wA ⟨rfl, hA⟩)
    go_name_world W2 hW2
    have HX2 : Hid (Q4 w W2 A a b ∧ Bx W2 wA.heap.size pt.1 pt.2 ∧ A + 1 + 1 < wA.heap.size) := by
      rw [← hW2]
      exact ⟨(HX.out.keep hA.bel).keep ((Below.refl _ _).alloc (Nat.le_refl _) _), Bx.new _ _ _ _, Nat.lt_of_lt_of_le HX.out.xr.1.lt hA.bel.size⟩
    clear hW2 hA HX b0 b1
    generalize wA.heap.size = T6 at *
    have b0 := HX2.out.1.xb.1
    have b1 := HX2.out.1.xb.2
    go_upto_region 5 with (go_at_call 66; refine (nmeet_any b (_, _) _).mono ?_; rw [hM2]; rintro e wB ⟨rfl, hB⟩)
    go_name_world W3 hW3
    have HX3 : Hid (Q4 w W3 A a b ∧ Bx W3 T6 pt.1 pt.2 ∧ Bx W3 wB.heap.size 0 0 ∧ A + 1 + 1 < T6 ∧ A + 1 + 1 < wB.heap.size) := by
      rw [← hW3]
      exact ⟨(HX2.out.1.keep hB.bel).keep ((Below.refl _ _).alloc (Nat.le_refl _) _), (HX2.out.2.1.keep hB.bel).keep ((Below.refl _ _).alloc (Nat.le_refl _) _), Bx.new _ _ _ _, HX2.out.2.2, Nat.lt_of_lt_of_le HX2.out.1.xr.1.lt hB.bel.size⟩
    clear hW3 hB HX2 b0 b1 hM1 hM2
    generalize wB.heap.size = T8 at *
    have a0 := HX3.out.1.xa.1
    have a1 := HX3.out.1.xa.2
    have t0 := HX3.out.2.1.1
    have t1 := HX3.out.2.1.2
    go_wp2_with (go_at_call 84; refine (hQ _).mono ?_; rintro e wQ ⟨rfl, hbQ⟩; have KQ := HX3.out.1.keep hbQ; have r0 := KQ.xr.1.1; have r1 := KQ.xr.1.2; have r2 := KQ.xr.2.1; have r3 := KQ.xr.2.2; have hWQ := KQ.bel; clear KQ hbQ)
    clear hQ a0 a1 t0 t1 HX3
    refine bodyPost_ret (by simp [results, Tryd.results59, go_sem, *]; try rfl) rfl ⟨?_, by rw [← HAA.out]; exact (by repeat (first | assumption | (refine Below.drew ?_) | (refine below_drewN ?_ _) | (refine Below.setCell ?_ (by first | omega | (simp; omega)) _) | (refine Below.alloc ?_ (by first | omega | (simp; omega)) _)))⟩
    rw [HQ.out]
end Go.Proofs.YthiacdbjlkpfgaaDoor
namespace Go.Proofs.YthiacdbjlkpfgaaDoor
open Go.RowKit
set_option maxRecDepth 100000 in
set_option maxHeartbeats 16000000 in
theorem quots_above (a b : Int × Int) (w : World) (ha : Sp a) (hb : Sp b) (hA : ¬ (a.1 = -9223372036854775808 ∧ b.1 ≤ -1 ∧ -1 ≤ b.2)) (h1 : ¬ b.1 ≤ -1) (h2 : 1 ≤ b.2) : Calls Tryd.prog 59 #[.agg #[.int .i64 a.1, .int .i64 a.2], .agg #[.int .i64 b.1, .int .i64 b.2]] w fun e w' => e = .returned (.tuple #[.agg #[.int .i64 ((quotsP a b).1).1, .int .i64 ((quotsP a b).1).2], .bool (quotsP a b).2]) ∧ Below w.heap.size w w' := by
  have HQ : Hid (quotsP a b = (quoP a (aboveP b), true)) := by unfold Hid quotsP; rw [if_neg hA, if_neg (by omega), if_neg h1, if_pos h2]
  have hM1 := meet_nobelow b hb h1
  have hM2 := meet_above b hb h2
  have hQ := fun w => quo_any a (aboveP b) w ha (sp_above b hb h2).1 (Or.inl (sp_above b hb h2).2) (by unfold aboveP Sp at *; dsimp only at *; omega)
  generalize quoP a (aboveP b) = r at *
  generalize aboveP b = pt at *
  clear ha hb
  by_cases hL : a.1 = -9223372036854775808
  · have hh : hasR b.1 b.2 (-1) = false := by
      unfold hasR
      rw [Bool.and_eq_false_iff, decide_eq_false_iff_not, decide_eq_false_iff_not]
      omega
    have hd : (a.1 == -9223372036854775808) = true := by rw [hL]; rfl
    clear hA hL
    clear h1 h2
    go_enter Tryd.func59, Tryd.ntmps59
    go_upto_region 3 with ((go_at_call 27; refine (nhas_any _ _ _ _).mono ?_; rintro e w1 ⟨rfl, o1, rfl⟩))
    go_name_world W hW
    have HX : Hid (Q4 w W w.heap.size a b) := by
      rw [← hW]
      first | exact Q4.start w a b | exact (Q4.start w a b).keep (by exact (by repeat (first | exact Below.refl _ _ | (refine Below.drew ?_) | (refine below_drewN ?_ _) | (refine Below.setCell ?_ (by first | omega | (simp; done) | (simp; omega)) _) | (refine Below.alloc ?_ (by first | omega | (simp; done) | (simp; omega)) _) | (refine Below.trans ?_ (Below.mono (by assumption) (by first | omega | (simp; done) | (simp; omega)))))))
    clear hW
    have b0 := HX.out.xb.1
    have b1 := HX.out.xb.2
    obtain ⟨A, hAA⟩ : ∃ A, A = w.heap.size := ⟨_, rfl⟩
    rw [← hAA] at HX b0 b1 ⊢
    have HAA : Hid (A = w.heap.size) := hAA
    clear hAA
    go_upto_region 4 with (go_at_call 66; refine (nmeet_any b (_, _) _).mono ?_; rw [hM1]; rintro e wA ⟨rfl, hA⟩)
    go_name_world W2 hW2
    have HX2 : Hid (Q4 w W2 A a b ∧ Bx W2 wA.heap.size 0 0 ∧ A + 1 + 1 < wA.heap.size) := by
      rw [← hW2]
      exact ⟨(HX.out.keep hA.bel).keep ((Below.refl _ _).alloc (Nat.le_refl _) _), Bx.new _ _ _ _, Nat.lt_of_lt_of_le HX.out.xr.1.lt hA.bel.size⟩
    clear hW2 hA HX b0 b1
    generalize wA.heap.size = T6 at *
    have b0 := HX2.out.1.xb.1
    have b1 := HX2.out.1.xb.2
    go_upto_region 5 with (go_at_call 66; refine (nmeet_any b (_, _) _).mono ?_; rw [hM2]; rintro e wB ⟨rfl, hB⟩)
    go_name_world W3 hW3
    have HX3 : Hid (Q4 w W3 A a b ∧ Bx W3 T6 0 0 ∧ Bx W3 wB.heap.size pt.1 pt.2 ∧ A + 1 + 1 < T6 ∧ A + 1 + 1 < wB.heap.size) := by
      rw [← hW3]
      exact ⟨(HX2.out.1.keep hB.bel).keep ((Below.refl _ _).alloc (Nat.le_refl _) _), (HX2.out.2.1.keep hB.bel).keep ((Below.refl _ _).alloc (Nat.le_refl _) _), Bx.new _ _ _ _, HX2.out.2.2, Nat.lt_of_lt_of_le HX2.out.1.xr.1.lt hB.bel.size⟩
    clear hW3 hB HX2 b0 b1 hM1 hM2
    generalize wB.heap.size = T8 at *
    have a0 := HX3.out.1.xa.1
    have a1 := HX3.out.1.xa.2
    have t0 := HX3.out.2.2.1.1
    have t1 := HX3.out.2.2.1.2
    go_wp2_with (go_at_call 84; refine (hQ _).mono ?_; rintro e wQ ⟨rfl, hbQ⟩; have KQ := HX3.out.1.keep hbQ; have r0 := KQ.xr.1.1; have r1 := KQ.xr.1.2; have r2 := KQ.xr.2.1; have r3 := KQ.xr.2.2; have hWQ := KQ.bel; clear KQ hbQ)
    clear hQ a0 a1 t0 t1 HX3
    refine bodyPost_ret (by simp [results, Tryd.results59, go_sem, *]; try rfl) rfl ⟨?_, by rw [← HAA.out]; exact (by repeat (first | assumption | (refine Below.drew ?_) | (refine below_drewN ?_ _) | (refine Below.setCell ?_ (by first | omega | (simp; omega)) _) | (refine Below.alloc ?_ (by first | omega | (simp; omega)) _)))⟩
    rw [HQ.out]
  · clear hA
    clear h1 h2
    go_enter Tryd.func59, Tryd.ntmps59
    go_upto_region 3 with ((go_at_call 27; refine (nhas_any _ _ _ _).mono ?_; rintro e w1 ⟨rfl, o1, rfl⟩))
    go_name_world W hW
    have HX : Hid (Q4 w W w.heap.size a b) := by
      rw [← hW]
      first | exact Q4.start w a b | exact (Q4.start w a b).keep (by exact (by repeat (first | exact Below.refl _ _ | (refine Below.drew ?_) | (refine below_drewN ?_ _) | (refine Below.setCell ?_ (by first | omega | (simp; done) | (simp; omega)) _) | (refine Below.alloc ?_ (by first | omega | (simp; done) | (simp; omega)) _) | (refine Below.trans ?_ (Below.mono (by assumption) (by first | omega | (simp; done) | (simp; omega)))))))
    clear hW
    have b0 := HX.out.xb.1
    have b1 := HX.out.xb.2
    obtain ⟨A, hAA⟩ : ∃ A, A = w.heap.size := ⟨_, rfl⟩
    rw [← hAA] at HX b0 b1 ⊢
    have HAA : Hid (A = w.heap.size) := hAA
    clear hAA
    go_upto_region 4 with (go_at_call 66; refine (nmeet_any b (_, _) _).mono ?_; rw [hM1]; rintro e wA ⟨rfl, hA⟩)
    go_name_world W2 hW2
    have HX2 : Hid (Q4 w W2 A a b ∧ Bx W2 wA.heap.size 0 0 ∧ A + 1 + 1 < wA.heap.size) := by
      rw [← hW2]
      exact ⟨(HX.out.keep hA.bel).keep ((Below.refl _ _).alloc (Nat.le_refl _) _), Bx.new _ _ _ _, Nat.lt_of_lt_of_le HX.out.xr.1.lt hA.bel.size⟩
    clear hW2 hA HX b0 b1
    generalize wA.heap.size = T6 at *
    have b0 := HX2.out.1.xb.1
    have b1 := HX2.out.1.xb.2
    go_upto_region 5 with (go_at_call 66; refine (nmeet_any b (_, _) _).mono ?_; rw [hM2]; rintro e wB ⟨rfl, hB⟩)
    go_name_world W3 hW3
    have HX3 : Hid (Q4 w W3 A a b ∧ Bx W3 T6 0 0 ∧ Bx W3 wB.heap.size pt.1 pt.2 ∧ A + 1 + 1 < T6 ∧ A + 1 + 1 < wB.heap.size) := by
      rw [← hW3]
      exact ⟨(HX2.out.1.keep hB.bel).keep ((Below.refl _ _).alloc (Nat.le_refl _) _), (HX2.out.2.1.keep hB.bel).keep ((Below.refl _ _).alloc (Nat.le_refl _) _), Bx.new _ _ _ _, HX2.out.2.2, Nat.lt_of_lt_of_le HX2.out.1.xr.1.lt hB.bel.size⟩
    clear hW3 hB HX2 b0 b1 hM1 hM2
    generalize wB.heap.size = T8 at *
    have a0 := HX3.out.1.xa.1
    have a1 := HX3.out.1.xa.2
    have t0 := HX3.out.2.2.1.1
    have t1 := HX3.out.2.2.1.2
    go_wp2_with (go_at_call 84; refine (hQ _).mono ?_; rintro e wQ ⟨rfl, hbQ⟩; have KQ := HX3.out.1.keep hbQ; have r0 := KQ.xr.1.1; have r1 := KQ.xr.1.2; have r2 := KQ.xr.2.1; have r3 := KQ.xr.2.2; have hWQ := KQ.bel; clear KQ hbQ)
    clear hQ a0 a1 t0 t1 HX3
    refine bodyPost_ret (by simp [results, Tryd.results59, go_sem, *]; try rfl) rfl ⟨?_, by rw [← HAA.out]; exact (by repeat (first | assumption | (refine Below.drew ?_) | (refine below_drewN ?_ _) | (refine Below.setCell ?_ (by first | omega | (simp; omega)) _) | (refine Below.alloc ?_ (by first | omega | (simp; omega)) _)))⟩
    rw [HQ.out]
end Go.Proofs.YthiacdbjlkpfgaaDoor
