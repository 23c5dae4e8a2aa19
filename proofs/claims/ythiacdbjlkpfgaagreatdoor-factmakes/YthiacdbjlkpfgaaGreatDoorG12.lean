import Derived.Test.YthiacdbjlkpfgaaGreatDoorG05
import Derived.Test.YthiacdbjlkpfgaaGreatDoorG11
import Derived.Lib.ItoaWalk
import Derived.Deep.CutBlock
import Derived.Test.YthiacdbjlkpfgaaGreatDoorG06
namespace Go.Proofs.YthiacdbjlkpfgaaGreatDoor
open Go.RowKit
set_option maxRecDepth 100000 in
set_option maxHeartbeats 16000000 in
theorem quots_above (a b : Int × Int) (w : World) (ha : Sp a) (hb : Sp b) (hA : ¬ (a.1 = -9223372036854775808 ∧ b.1 ≤ -1 ∧ -1 ≤ b.2)) (h1 : ¬ b.1 ≤ -1) (h2 : 1 ≤ b.2) : Calls Tryz.prog 81 #[.agg #[.int .i64 a.1, .int .i64 a.2], .agg #[.int .i64 b.1, .int .i64 b.2]] w fun e w' => e = .returned (.tuple #[.agg #[.int .i64 ((quotsP a b).1).1, .int .i64 ((quotsP a b).1).2], .bool (quotsP a b).2]) ∧ Below w.heap.size w w' := by
  have HQ : Hid (quotsP a b = (quoP a (aboveP b), true)) := by unfold Hid quotsP; rw [if_neg hA, if_neg (by omega), if_neg h1, if_pos h2]
  have hM1 := meet_nobelow b hb h1
  have hM2 := meet_above b hb h2
  have hQ := fun w => quo_any a (aboveP b) w ha (sp_above b hb h2).1 (Or.inl (sp_above b hb h2).2) (by unfold aboveP Sp at *; dsimp only at *; omega)
  generalize quoP a (aboveP b) = r at *
  generalize aboveP b = pt at *
  clear ha hb
  by_cases hL : a.1 = -9223372036854775808
  · have hh : hasR b.1 b.2 (-1) = false := by
      unfold hasR
      rw [Bool.and_eq_false_iff, decide_eq_false_iff_not, decide_eq_false_iff_not]
      omega
    have hd : (a.1 == -9223372036854775808) = true := by rw [hL]; rfl
    clear hA hL
    clear h1 h2
    go_enter Tryz.func81, Tryz.ntmps81
    go_upto_region 3 with ((go_at_call 107; refine (nhas_any _ _ _ _).mono ?_; rintro e w1 ⟨rfl, o1, rfl⟩))
    go_name_world W hW
    have HX : Hid (Q4 w W w.heap.size a b) := by
      rw [← hW]
      first | exact Q4.start w a b | exact (Q4.start w a b).keep (by exact (by repeat (first | exact Below.refl _ _ | (refine Below.drew ?_) | (refine below_drewN ?_ _) | (refine Below.setCell ?_ (by first | omega | (simp; done) | (simp; omega)) _) | (refine Below.alloc ?_ (by first | omega | (simp; done) | (simp; omega)) _) | (refine Below.trans ?_ (Below.mono (by assumption) (by first | omega | (simp; done) | (simp; omega)))))))
    clear hW
    have b0 := HX.out.xb.1
    have b1 := HX.out.xb.2
    obtain ⟨A, hAA⟩ : ∃ A, A = w.heap.size := ⟨_, rfl⟩
    rw [← hAA] at HX b0 b1 ⊢
    have HAA : Hid (A = w.heap.size) := hAA
    clear hAA
    go_upto_region 4 with (go_at_call 68; refine (nmeet_any b (_, _) _).mono ?_; rw [hM1]; rintro e wA ⟨rfl, hA⟩)
    go_name_world W2 hW2
    have HX2 : Hid (Q4 w W2 A a b ∧ Bx W2 wA.heap.size 0 0 ∧ A + 1 + 1 < wA.heap.size) := by
      rw [← hW2]
      exact ⟨(HX.out.keep hA.bel).keep ((Below.refl _ _).alloc (Nat.le_refl _) _), Bx.new _ _ _ _, Nat.lt_of_lt_of_le HX.out.xr.1.lt hA.bel.size⟩
    clear hW2 hA HX b0 b1
    generalize wA.heap.size = T6 at *
    have b0 := HX2.out.1.xb.1
    have b1 := HX2.out.1.xb.2
    go_upto_region 5 with (go_at_call 68; refine (nmeet_any b (_, _) _).mono ?_; rw [hM2]; rintro e wB ⟨rfl, hB⟩)
    go_name_world W3 hW3
    have HX3 : Hid (Q4 w W3 A a b ∧ Bx W3 T6 0 0 ∧ Bx W3 wB.heap.size pt.1 pt.2 ∧ A + 1 + 1 < T6 ∧ A + 1 + 1 < wB.heap.size) := by
      rw [← hW3]
      exact ⟨(HX2.out.1.keep hB.bel).keep ((Below.refl _ _).alloc (Nat.le_refl _) _), (HX2.out.2.1.keep hB.bel).keep ((Below.refl _ _).alloc (Nat.le_refl _) _), Bx.new _ _ _ _, HX2.out.2.2, Nat.lt_of_lt_of_le HX2.out.1.xr.1.lt hB.bel.size⟩
    clear hW3 hB HX2 b0 b1 hM1 hM2
    generalize wB.heap.size = T8 at *
    have a0 := HX3.out.1.xa.1
    have a1 := HX3.out.1.xa.2
    have t0 := HX3.out.2.2.1.1
    have t1 := HX3.out.2.2.1.2
    go_wp2_with (go_at_call 108; refine (hQ _).mono ?_; rintro e wQ ⟨rfl, hbQ⟩; have KQ := HX3.out.1.keep hbQ; have r0 := KQ.xr.1.1; have r1 := KQ.xr.1.2; have r2 := KQ.xr.2.1; have r3 := KQ.xr.2.2; have hWQ := KQ.bel; clear KQ hbQ)
    clear hQ a0 a1 t0 t1 HX3
    refine bodyPost_ret (by simp [results, Tryz.results81, go_sem, *]; try rfl) rfl ⟨?_, by rw [← HAA.out]; exact (by repeat (first | assumption | (refine Below.drew ?_) | (refine below_drewN ?_ _) | (refine Below.setCell ?_ (by first | omega | (simp; omega)) _) | (refine Below.alloc ?_ (by first | omega | (simp; omega)) _)))⟩
    rw [HQ.out]
  · clear hA
    clear h1 h2
    go_enter Tryz.func81, Tryz.ntmps81
    go_upto_region 3 with ((go_at_call 107; refine (nhas_any _ _ _ _).mono ?_; rintro e w1 ⟨rfl, o1, rfl⟩))
    go_name_world W hW
    have HX : Hid (Q4 w W w.heap.size a b) := by
      rw [← hW]
      first | exact Q4.start w a b | exact (Q4.start w a b).keep (by exact (by repeat (first | exact Below.refl _ _ | (refine Below.drew ?_) | (refine below_drewN ?_ _) | (refine Below.setCell ?_ (by first | omega | (simp; done) | (simp; omega)) _) | (refine Below.alloc ?_ (by first | omega | (simp; done) | (simp; omega)) _) | (refine Below.trans ?_ (Below.mono (by assumption) (by first | omega | (simp; done) | (simp; omega)))))))
    clear hW
    have b0 := HX.out.xb.1
    have b1 := HX.out.xb.2
    obtain ⟨A, hAA⟩ : ∃ A, A = w.heap.size := ⟨_, rfl⟩
    rw [← hAA] at HX b0 b1 ⊢
    have HAA : Hid (A = w.heap.size) := hAA
    clear hAA
    go_upto_region 4 with (go_at_call 68; refine (nmeet_any b (_, _) _).mono ?_; rw [hM1]; rintro e wA ⟨rfl, hA⟩)
    go_name_world W2 hW2
    have HX2 : Hid (Q4 w W2 A a b ∧ Bx W2 wA.heap.size 0 0 ∧ A + 1 + 1 < wA.heap.size) := by
      rw [← hW2]
      exact ⟨(HX.out.keep hA.bel).keep ((Below.refl _ _).alloc (Nat.le_refl _) _), Bx.new _ _ _ _, Nat.lt_of_lt_of_le HX.out.xr.1.lt hA.bel.size⟩
    clear hW2 hA HX b0 b1
    generalize wA.heap.size = T6 at *
    have b0 := HX2.out.1.xb.1
    have b1 := HX2.out.1.xb.2
    go_upto_region 5 with (go_at_call 68; refine (nmeet_any b (_, _) _).mono ?_; rw [hM2]; rintro e wB ⟨rfl, hB⟩)
    go_name_world W3 hW3
    have HX3 : Hid (Q4 w W3 A a b ∧ Bx W3 T6 0 0 ∧ Bx W3 wB.heap.size pt.1 pt.2 ∧ A + 1 + 1 < T6 ∧ A + 1 + 1 < wB.heap.size) := by
      rw [← hW3]
      exact ⟨(HX2.out.1.keep hB.bel).keep ((Below.refl _ _).alloc (Nat.le_refl _) _), (HX2.out.2.1.keep hB.bel).keep ((Below.refl _ _).alloc (Nat.le_refl _) _), Bx.new _ _ _ _, HX2.out.2.2, Nat.lt_of_lt_of_le HX2.out.1.xr.1.lt hB.bel.size⟩
    clear hW3 hB HX2 b0 b1 hM1 hM2
    generalize wB.heap.size = T8 at *
    have a0 := HX3.out.1.xa.1
    have a1 := HX3.out.1.xa.2
    have t0 := HX3.out.2.2.1.1
    have t1 := HX3.out.2.2.1.2
    go_wp2_with (go_at_call 108; refine (hQ _).mono ?_; rintro e wQ ⟨rfl, hbQ⟩; have KQ := HX3.out.1.keep hbQ; have r0 := KQ.xr.1.1; have r1 := KQ.xr.1.2; have r2 := KQ.xr.2.1; have r3 := KQ.xr.2.2; have hWQ := KQ.bel; clear KQ hbQ)
    clear hQ a0 a1 t0 t1 HX3
    refine bodyPost_ret (by simp [results, Tryz.results81, go_sem, *]; try rfl) rfl ⟨?_, by rw [← HAA.out]; exact (by repeat (first | assumption | (refine Below.drew ?_) | (refine below_drewN ?_ _) | (refine Below.setCell ?_ (by first | omega | (simp; omega)) _) | (refine Below.alloc ?_ (by first | omega | (simp; omega)) _)))⟩
    rw [HQ.out]
end Go.Proofs.YthiacdbjlkpfgaaGreatDoor
namespace Go.Proofs.YthiacdbjlkpfgaaGreatDoor
open Go.RowKit
set_option maxRecDepth 100000 in
set_option maxHeartbeats 16000000 in
theorem quots_both (a b : Int × Int) (w : World) (ha : Sp a) (hb : Sp b) (hA : ¬ (a.1 = -9223372036854775808 ∧ b.1 ≤ -1 ∧ -1 ≤ b.2)) (h1 : b.1 ≤ -1) (h2 : 1 ≤ b.2) : Calls Tryz.prog 81 #[.agg #[.int .i64 a.1, .int .i64 a.2], .agg #[.int .i64 b.1, .int .i64 b.2]] w fun e w' => e = .returned (.tuple #[.agg #[.int .i64 ((quotsP a b).1).1, .int .i64 ((quotsP a b).1).2], .bool (quotsP a b).2]) ∧ Below w.heap.size w w' := by
  have HQ : Hid (quotsP a b = ((min (quoP a (belowP b)).1 (quoP a (aboveP b)).1, max (quoP a (belowP b)).2 (quoP a (aboveP b)).2), true)) := by unfold Hid quotsP; rw [if_neg hA, if_pos ⟨h1, h2⟩]
  have hM1 := meet_below b hb h1
  have hM2 := meet_above b hb h2
  have hQ1 := fun w => quo_any a (belowP b) w ha (sp_below b hb h1).1 (Or.inr (sp_below b hb h1).2) (by unfold belowP Sp at *; dsimp only at *; omega)
  have hQ2 := fun w => quo_any a (aboveP b) w ha (sp_above b hb h2).1 (Or.inl (sp_above b hb h2).2) (by unfold aboveP Sp at *; dsimp only at *; omega)
  generalize quoP a (belowP b) = r1 at *
  generalize quoP a (aboveP b) = r2 at *
  generalize belowP b = pt at *
  generalize aboveP b = qt at *
  clear ha hb
  by_cases hL : a.1 = -9223372036854775808
  · have hh : hasR b.1 b.2 (-1) = false := by
      unfold hasR
      rw [Bool.and_eq_false_iff, decide_eq_false_iff_not, decide_eq_false_iff_not]
      omega
    have hd : (a.1 == -9223372036854775808) = true := by rw [hL]; rfl
    clear hA hL
    clear h1 h2
    go_enter Tryz.func81, Tryz.ntmps81
    go_upto_region 3 with ((go_at_call 107; refine (nhas_any _ _ _ _).mono ?_; rintro e w1 ⟨rfl, o1, rfl⟩))
    go_name_world W hW
    have HX : Hid (Q4 w W w.heap.size a b) := by
      rw [← hW]
      first | exact Q4.start w a b | exact (Q4.start w a b).keep (by exact (by repeat (first | exact Below.refl _ _ | (refine Below.drew ?_) | (refine below_drewN ?_ _) | (refine Below.setCell ?_ (by first | omega | (simp; done) | (simp; omega)) _) | (refine Below.alloc ?_ (by first | omega | (simp; done) | (simp; omega)) _) | (refine Below.trans ?_ (Below.mono (by assumption) (by first | omega | (simp; done) | (simp; omega)))))))
    clear hW
    have b0 := HX.out.xb.1
    have b1 := HX.out.xb.2
    obtain ⟨A, hAA⟩ : ∃ A, A = w.heap.size := ⟨_, rfl⟩
    rw [← hAA] at HX b0 b1 ⊢
    have HAA : Hid (A = w.heap.size) := hAA
    clear hAA
    go_upto_region 4 with (go_at_call 68; refine (nmeet_any b (_, _) _).mono ?_; rw [hM1]; rintro e wA ⟨rfl, hA⟩)
    go_name_world W2 hW2
    have HX2 : Hid (Q4 w W2 A a b ∧ Bx W2 wA.heap.size pt.1 pt.2 ∧ A + 1 + 1 < wA.heap.size) := by
      rw [← hW2]
      exact ⟨(HX.out.keep hA.bel).keep ((Below.refl _ _).alloc (Nat.le_refl _) _), Bx.new _ _ _ _, Nat.lt_of_lt_of_le HX.out.xr.1.lt hA.bel.size⟩
    clear hW2 hA HX b0 b1
    generalize wA.heap.size = T6 at *
    have b0 := HX2.out.1.xb.1
    have b1 := HX2.out.1.xb.2
    go_upto_region 5 with (go_at_call 68; refine (nmeet_any b (_, _) _).mono ?_; rw [hM2]; rintro e wB ⟨rfl, hB⟩)
    go_name_world W3 hW3
    have HX3 : Hid (Q4 w W3 A a b ∧ Bx W3 T6 pt.1 pt.2 ∧ Bx W3 wB.heap.size qt.1 qt.2 ∧ A + 1 + 1 < T6 ∧ A + 1 + 1 < wB.heap.size) := by
      rw [← hW3]
      exact ⟨(HX2.out.1.keep hB.bel).keep ((Below.refl _ _).alloc (Nat.le_refl _) _), (HX2.out.2.1.keep hB.bel).keep ((Below.refl _ _).alloc (Nat.le_refl _) _), Bx.new _ _ _ _, HX2.out.2.2, Nat.lt_of_lt_of_le HX2.out.1.xr.1.lt hB.bel.size⟩
    clear hW3 hB HX2 b0 b1 hM1 hM2
    generalize wB.heap.size = T8 at *
    have nA : A < A + 1 + 1 := by omega
    have HN : Hid (T6 ≠ A + 1 + 1 ∧ T8 ≠ A + 1 + 1) := ⟨Nat.ne_of_gt HX3.out.2.2.2.1, Nat.ne_of_gt HX3.out.2.2.2.2⟩
    have HCL : Hid (∀ p q : World, (p.cell? ⟨A, 0, none⟩ = some (.int .i64 a.1) ∧ p.cell? ⟨A, 1, none⟩ = some (.int .i64 a.2) ∧ A < p.heap.size ∧ p.cell? ⟨T6, 0, none⟩ = some (.int .i64 pt.1) ∧ p.cell? ⟨T6, 1, none⟩ = some (.int .i64 pt.2) ∧ T6 < p.heap.size ∧ p.cell? ⟨T8, 0, none⟩ = some (.int .i64 qt.1) ∧ p.cell? ⟨T8, 1, none⟩ = some (.int .i64 qt.2) ∧ T8 < p.heap.size ∧ Hid (∃ x y, Bz p (A + 1 + 1) x y ∧ Below A w p)) → Below p.heap.size p q → (q.cell? ⟨A, 0, none⟩ = some (.int .i64 a.1) ∧ q.cell? ⟨A, 1, none⟩ = some (.int .i64 a.2) ∧ A < q.heap.size ∧ q.cell? ⟨T6, 0, none⟩ = some (.int .i64 pt.1) ∧ q.cell? ⟨T6, 1, none⟩ = some (.int .i64 pt.2) ∧ T6 < q.heap.size ∧ q.cell? ⟨T8, 0, none⟩ = some (.int .i64 qt.1) ∧ q.cell? ⟨T8, 1, none⟩ = some (.int .i64 qt.2) ∧ T8 < q.heap.size ∧ Hid (∃ x y, Bz q (A + 1 + 1) x y ∧ Below A w q))) := fun p q h hb => by
      obtain ⟨s1, s2, s3, s4, s5, s6, s7, s8, s9, x, y, s10, s11⟩ := h
      have k1 := Bx.keep ⟨s1, s2⟩ hb
      have k2 := Bx.keep ⟨s4, s5⟩ hb
      have k3 := Bx.keep ⟨s7, s8⟩ hb
      exact ⟨k1.1, k1.2, k1.lt, k2.1, k2.2, k2.lt, k3.1, k3.2, k3.lt, x, y, s10.keep hb, s11.trans (hb.mono (Nat.le_of_lt s3))⟩
    have HST : Hid (∀ (p : World) (x' y' : Int), (p.cell? ⟨A, 0, none⟩ = some (.int .i64 a.1) ∧ p.cell? ⟨A, 1, none⟩ = some (.int .i64 a.2) ∧ A < p.heap.size ∧ p.cell? ⟨T6, 0, none⟩ = some (.int .i64 pt.1) ∧ p.cell? ⟨T6, 1, none⟩ = some (.int .i64 pt.2) ∧ T6 < p.heap.size ∧ p.cell? ⟨T8, 0, none⟩ = some (.int .i64 qt.1) ∧ p.cell? ⟨T8, 1, none⟩ = some (.int .i64 qt.2) ∧ T8 < p.heap.size ∧ Hid (∃ x y, Bz p (A + 1 + 1) x y ∧ Below A w p)) → (((p.setCell ⟨A + 1 + 1, 0, none⟩ (.int .i64 x')).setCell ⟨A + 1 + 1, 1, none⟩ (.int .i64 y')).cell? ⟨A, 0, none⟩ = some (.int .i64 a.1) ∧ ((p.setCell ⟨A + 1 + 1, 0, none⟩ (.int .i64 x')).setCell ⟨A + 1 + 1, 1, none⟩ (.int .i64 y')).cell? ⟨A, 1, none⟩ = some (.int .i64 a.2) ∧ A < ((p.setCell ⟨A + 1 + 1, 0, none⟩ (.int .i64 x')).setCell ⟨A + 1 + 1, 1, none⟩ (.int .i64 y')).heap.size ∧ ((p.setCell ⟨A + 1 + 1, 0, none⟩ (.int .i64 x')).setCell ⟨A + 1 + 1, 1, none⟩ (.int .i64 y')).cell? ⟨T6, 0, none⟩ = some (.int .i64 pt.1) ∧ ((p.setCell ⟨A + 1 + 1, 0, none⟩ (.int .i64 x')).setCell ⟨A + 1 + 1, 1, none⟩ (.int .i64 y')).cell? ⟨T6, 1, none⟩ = some (.int .i64 pt.2) ∧ T6 < ((p.setCell ⟨A + 1 + 1, 0, none⟩ (.int .i64 x')).setCell ⟨A + 1 + 1, 1, none⟩ (.int .i64 y')).heap.size ∧ ((p.setCell ⟨A + 1 + 1, 0, none⟩ (.int .i64 x')).setCell ⟨A + 1 + 1, 1, none⟩ (.int .i64 y')).cell? ⟨T8, 0, none⟩ = some (.int .i64 qt.1) ∧ ((p.setCell ⟨A + 1 + 1, 0, none⟩ (.int .i64 x')).setCell ⟨A + 1 + 1, 1, none⟩ (.int .i64 y')).cell? ⟨T8, 1, none⟩ = some (.int .i64 qt.2) ∧ T8 < ((p.setCell ⟨A + 1 + 1, 0, none⟩ (.int .i64 x')).setCell ⟨A + 1 + 1, 1, none⟩ (.int .i64 y')).heap.size ∧ Hid (∃ x y, Bz ((p.setCell ⟨A + 1 + 1, 0, none⟩ (.int .i64 x')).setCell ⟨A + 1 + 1, 1, none⟩ (.int .i64 y')) (A + 1 + 1) x y ∧ Below A w ((p.setCell ⟨A + 1 + 1, 0, none⟩ (.int .i64 x')).setCell ⟨A + 1 + 1, 1, none⟩ (.int .i64 y'))))) := fun p x' y' h => by
      obtain ⟨s1, s2, s3, s4, s5, s6, s7, s8, s9, x, y, s10, s11⟩ := h
      have k1 := Bx.set' (q := A + 1 + 1) (by omega) ⟨s1, s2⟩ (.int .i64 x') (.int .i64 y')
      have k2 := Bx.set' (q := A + 1 + 1) HN.out.1 ⟨s4, s5⟩ (.int .i64 x') (.int .i64 y')
      have k3 := Bx.set' (q := A + 1 + 1) HN.out.2 ⟨s7, s8⟩ (.int .i64 x') (.int .i64 y')
      exact ⟨k1.1, k1.2, k1.lt, k2.1, k2.2, k2.lt, k3.1, k3.2, k3.lt, x', y', s10.wrote, (s11.setCell (by simp; omega) _).setCell (by simp; omega) _⟩
    have hS0 : W3.cell? ⟨A, 0, none⟩ = some (.int .i64 a.1) ∧ W3.cell? ⟨A, 1, none⟩ = some (.int .i64 a.2) ∧ A < W3.heap.size ∧ W3.cell? ⟨T6, 0, none⟩ = some (.int .i64 pt.1) ∧ W3.cell? ⟨T6, 1, none⟩ = some (.int .i64 pt.2) ∧ T6 < W3.heap.size ∧ W3.cell? ⟨T8, 0, none⟩ = some (.int .i64 qt.1) ∧ W3.cell? ⟨T8, 1, none⟩ = some (.int .i64 qt.2) ∧ T8 < W3.heap.size ∧ Hid (∃ x y, Bz W3 (A + 1 + 1) x y ∧ Below A w W3) := ⟨HX3.out.1.xa.1, HX3.out.1.xa.2, HX3.out.1.xa.lt, HX3.out.2.1.1, HX3.out.2.1.2, HX3.out.2.1.lt, HX3.out.2.2.1.1, HX3.out.2.2.1.2, HX3.out.2.2.1.lt, 0, 0, HX3.out.1.xr, HX3.out.1.bel⟩
    clear HX3
    go_upto_region 6 with fail
    refine wp_region_held_drew (S := fun w' => w'.cell? ⟨A, 0, none⟩ = some (.int .i64 a.1) ∧ w'.cell? ⟨A, 1, none⟩ = some (.int .i64 a.2) ∧ A < w'.heap.size ∧ w'.cell? ⟨T6, 0, none⟩ = some (.int .i64 pt.1) ∧ w'.cell? ⟨T6, 1, none⟩ = some (.int .i64 pt.2) ∧ T6 < w'.heap.size ∧ w'.cell? ⟨T8, 0, none⟩ = some (.int .i64 qt.1) ∧ w'.cell? ⟨T8, 1, none⟩ = some (.int .i64 qt.2) ∧ T8 < w'.heap.size ∧ Hid (∃ x y, Bz w' (A + 1 + 1) x y ∧ Below A w w')) (by kernel_rfl) (HCL.out _ _ hS0 ((Below.refl _ _).drew)) (fun hHeld => ?_)
    refine wpAnyH_take (i := 0) (oi := ({ dst := some 35, op := Op.load 30 (Operand.tmp 2), type := 30, pos := "two.go:98", after := #[], guard := none } : Oper)) (v := ?_) rfl (by kernel_rfl) (by kernel_rfl) (by kernel_rfl) (fun _ _ _ h => h) (Or.inl ⟨by rfl, ?_⟩) (by assumption) ?_
    rotate_left
    · (intro wz hSw; (try dsimp only at hSw); go_simp; try with_reducible rfl)
    simp only [Act.put, List.setIfInBounds_toArray, List.set_cons_zero, List.set_cons_succ]
    refine wpAnyH_take (i := 1) (oi := ({ dst := some 36, op := Op.load 30 (Operand.tmp 6), type := 30, pos := "two.go:98", after := #[], guard := none } : Oper)) (v := ?_) rfl (by kernel_rfl) (by kernel_rfl) (by kernel_rfl) (fun _ _ _ h => h) (Or.inl ⟨by rfl, ?_⟩) (by assumption) ?_
    rotate_left
    · (intro wz hSw; (try dsimp only at hSw); go_simp; try with_reducible rfl)
    simp only [Act.put, List.setIfInBounds_toArray, List.set_cons_zero, List.set_cons_succ]
    refine wpAnyH_take (i := 3) (oi := ({ dst := some 38, op := Op.load 30 (Operand.tmp 2), type := 30, pos := "two.go:98", after := #[], guard := none } : Oper)) (v := ?_) rfl (by kernel_rfl) (by kernel_rfl) (by kernel_rfl) (fun _ _ _ h => h) (Or.inl ⟨by rfl, ?_⟩) (by assumption) ?_
    rotate_left
    · (intro wz hSw; (try dsimp only at hSw); go_simp; try with_reducible rfl)
    simp only [Act.put, List.setIfInBounds_toArray, List.set_cons_zero, List.set_cons_succ]
    refine wpAnyH_take (i := 4) (oi := ({ dst := some 39, op := Op.load 30 (Operand.tmp 8), type := 30, pos := "two.go:98", after := #[], guard := none } : Oper)) (v := ?_) rfl (by kernel_rfl) (by kernel_rfl) (by kernel_rfl) (fun _ _ _ h => h) (Or.inl ⟨by rfl, ?_⟩) (by assumption) ?_
    rotate_left
    · (intro wz hSw; (try dsimp only at hSw); go_simp; try with_reducible rfl)
    simp only [Act.put, List.setIfInBounds_toArray, List.set_cons_zero, List.set_cons_succ]
    refine wpAnyH_ready (rs := [2]) (by kernel_rfl) (by simp) ?_
    refine AllReadyH.cons (o := ({ dst := some 37, op := Op.call { callee := Callee.value (Operand.func 108), args := #[Operand.tmp 35, Operand.tmp 36], argTypes := #[30, 30] }, type := 30, pos := "two.go:98", after := #[{ on := 0, ground := Ground.data }, { on := 1, ground := Ground.data }], guard := none } : Oper)) rfl (fun K hK => ?_) AllReadyH.nil
    go_simp
    go_at_call 108
    refine (lift (hQ1 _) (by assumption) HCL.out).mono ?_
    rintro e w2 ⟨rfl, h2⟩
    refine hK.out _ _ h2 (fun hHeld => ?_)
    clear hK K
    refine wpAnyH_ready (rs := [5]) (by kernel_rfl) (by simp) ?_
    refine AllReadyH.cons (o := ({ dst := some 40, op := Op.call { callee := Callee.value (Operand.func 108), args := #[Operand.tmp 38, Operand.tmp 39], argTypes := #[30, 30] }, type := 30, pos := "two.go:98", after := #[{ on := 3, ground := Ground.data }, { on := 4, ground := Ground.data }, { on := 2, ground := Ground.chain }], guard := none } : Oper)) rfl (fun K hK => ?_) AllReadyH.nil
    go_simp
    go_at_call 108
    refine (lift (hQ2 _) (by assumption) HCL.out).mono ?_
    rintro e w3 ⟨rfl, h3⟩
    refine hK.out _ _ h3 (fun hHeld => ?_)
    clear hK K
    refine wpAnyH_ready (rs := [6]) (by kernel_rfl) (by simp) ?_
    refine AllReadyH.cons (o := ({ dst := some 41, op := Op.call { callee := Callee.value (Operand.func 62), args := #[Operand.tmp 37, Operand.tmp 40], argTypes := #[30, 30] }, type := 30, pos := "two.go:98", after := #[{ on := 2, ground := Ground.data }, { on := 5, ground := Ground.data }, { on := 5, ground := Ground.chain }], guard := none } : Oper)) rfl (fun K hK => ?_) AllReadyH.nil
    go_simp
    go_at_call 62
    refine (lift (bel3 (njoin_any _ _ _ _ _)) (by assumption) HCL.out).mono ?_
    rintro e w5 ⟨rfl, h5⟩
    obtain ⟨x5, y5, g5, hW5⟩ := h5.2.2.2.2.2.2.2.2.2.out; have z0 := g5.1.1; have z1 := g5.1.2; have z2 := g5.2.1; have z3 := g5.2.2
    refine hK.out _ _ h5 (fun hHeld => ?_)
    clear hK K
    clear hQ1 hQ2
    refine wpAnyH_ready (rs := [7]) (by kernel_rfl) (by simp) ?_
    refine AllReadyH.cons (o := ({ dst := none, op := Op.store 30 (Operand.tmp 4) (Operand.tmp 41), type := 0, pos := "two.go:98", after := #[{ on := 6, ground := Ground.data }, { on := 6, ground := Ground.chain }, { on := 0, ground := Ground.phase }, { on := 1, ground := Ground.phase }, { on := 2, ground := Ground.phase }, { on := 3, ground := Ground.phase }, { on := 4, ground := Ground.phase }, { on := 5, ground := Ground.phase }, { on := 6, ground := Ground.phase }], guard := none } : Oper)) rfl (fun K hK => ?_) AllReadyH.nil
    go_simp
    refine hK.out _ _ (HST.out _ _ _ h5) (fun hHeld => ?_)
    clear hK K
    refine wpAnyH_ready (rs := [8]) (by kernel_rfl) (by simp) ?_
    refine AllReadyH.cons (o := ({ dst := some 5, op := Op.assign (Operand.const (Value.bool true)), type := 4, pos := "two.go:98", after := #[{ on := 7, ground := Ground.chain }, { on := 0, ground := Ground.phase }, { on := 1, ground := Ground.phase }, { on := 2, ground := Ground.phase }, { on := 3, ground := Ground.phase }, { on := 4, ground := Ground.phase }, { on := 5, ground := Ground.phase }, { on := 6, ground := Ground.phase }, { on := 7, ground := Ground.phase }], guard := none } : Oper)) rfl (fun K hK => ?_) AllReadyH.nil
    go_simp
    refine hK.out _ _ hHeld (fun hHeld => ?_)
    clear hK K
    refine wpAnyH_done (by kernel_rfl) ?_ _
    go_wp2
    clear HCL HST hS0 h2 h3 h5
    refine bodyPost_ret (by simp [results, Tryz.results81, go_sem, *]; try rfl) rfl ⟨?_, by rw [← HAA.out]; exact (by repeat (first | assumption | (refine Below.drew ?_) | (refine below_drewN ?_ _) | (refine Below.setCell ?_ (by first | omega | (simp; omega)) _) | (refine Below.alloc ?_ (by first | omega | (simp; omega)) _)))⟩
    rw [HQ.out]
  · clear hA
    clear h1 h2
    go_enter Tryz.func81, Tryz.ntmps81
    go_upto_region 3 with ((go_at_call 107; refine (nhas_any _ _ _ _).mono ?_; rintro e w1 ⟨rfl, o1, rfl⟩))
    go_name_world W hW
    have HX : Hid (Q4 w W w.heap.size a b) := by
      rw [← hW]
      first | exact Q4.start w a b | exact (Q4.start w a b).keep (by exact (by repeat (first | exact Below.refl _ _ | (refine Below.drew ?_) | (refine below_drewN ?_ _) | (refine Below.setCell ?_ (by first | omega | (simp; done) | (simp; omega)) _) | (refine Below.alloc ?_ (by first | omega | (simp; done) | (simp; omega)) _) | (refine Below.trans ?_ (Below.mono (by assumption) (by first | omega | (simp; done) | (simp; omega)))))))
    clear hW
    have b0 := HX.out.xb.1
    have b1 := HX.out.xb.2
    obtain ⟨A, hAA⟩ : ∃ A, A = w.heap.size := ⟨_, rfl⟩
    rw [← hAA] at HX b0 b1 ⊢
    have HAA : Hid (A = w.heap.size) := hAA
    clear hAA
    go_upto_region 4 with (go_at_call 68; refine (nmeet_any b (_, _) _).mono ?_; rw [hM1]; rintro e wA ⟨rfl, hA⟩)
    go_name_world W2 hW2
    have HX2 : Hid (Q4 w W2 A a b ∧ Bx W2 wA.heap.size pt.1 pt.2 ∧ A + 1 + 1 < wA.heap.size) := by
      rw [← hW2]
      exact ⟨(HX.out.keep hA.bel).keep ((Below.refl _ _).alloc (Nat.le_refl _) _), Bx.new _ _ _ _, Nat.lt_of_lt_of_le HX.out.xr.1.lt hA.bel.size⟩
    clear hW2 hA HX b0 b1
    generalize wA.heap.size = T6 at *
    have b0 := HX2.out.1.xb.1
    have b1 := HX2.out.1.xb.2
    go_upto_region 5 with (go_at_call 68; refine (nmeet_any b (_, _) _).mono ?_; rw [hM2]; rintro e wB ⟨rfl, hB⟩)
    go_name_world W3 hW3
    have HX3 : Hid (Q4 w W3 A a b ∧ Bx W3 T6 pt.1 pt.2 ∧ Bx W3 wB.heap.size qt.1 qt.2 ∧ A + 1 + 1 < T6 ∧ A + 1 + 1 < wB.heap.size) := by
      rw [← hW3]
      exact ⟨(HX2.out.1.keep hB.bel).keep ((Below.refl _ _).alloc (Nat.le_refl _) _), (HX2.out.2.1.keep hB.bel).keep ((Below.refl _ _).alloc (Nat.le_refl _) _), Bx.new _ _ _ _, HX2.out.2.2, Nat.lt_of_lt_of_le HX2.out.1.xr.1.lt hB.bel.size⟩
    clear hW3 hB HX2 b0 b1 hM1 hM2
    generalize wB.heap.size = T8 at *
    have nA : A < A + 1 + 1 := by omega
    have HN : Hid (T6 ≠ A + 1 + 1 ∧ T8 ≠ A + 1 + 1) := ⟨Nat.ne_of_gt HX3.out.2.2.2.1, Nat.ne_of_gt HX3.out.2.2.2.2⟩
    have HCL : Hid (∀ p q : World, (p.cell? ⟨A, 0, none⟩ = some (.int .i64 a.1) ∧ p.cell? ⟨A, 1, none⟩ = some (.int .i64 a.2) ∧ A < p.heap.size ∧ p.cell? ⟨T6, 0, none⟩ = some (.int .i64 pt.1) ∧ p.cell? ⟨T6, 1, none⟩ = some (.int .i64 pt.2) ∧ T6 < p.heap.size ∧ p.cell? ⟨T8, 0, none⟩ = some (.int .i64 qt.1) ∧ p.cell? ⟨T8, 1, none⟩ = some (.int .i64 qt.2) ∧ T8 < p.heap.size ∧ Hid (∃ x y, Bz p (A + 1 + 1) x y ∧ Below A w p)) → Below p.heap.size p q → (q.cell? ⟨A, 0, none⟩ = some (.int .i64 a.1) ∧ q.cell? ⟨A, 1, none⟩ = some (.int .i64 a.2) ∧ A < q.heap.size ∧ q.cell? ⟨T6, 0, none⟩ = some (.int .i64 pt.1) ∧ q.cell? ⟨T6, 1, none⟩ = some (.int .i64 pt.2) ∧ T6 < q.heap.size ∧ q.cell? ⟨T8, 0, none⟩ = some (.int .i64 qt.1) ∧ q.cell? ⟨T8, 1, none⟩ = some (.int .i64 qt.2) ∧ T8 < q.heap.size ∧ Hid (∃ x y, Bz q (A + 1 + 1) x y ∧ Below A w q))) := fun p q h hb => by
      obtain ⟨s1, s2, s3, s4, s5, s6, s7, s8, s9, x, y, s10, s11⟩ := h
      have k1 := Bx.keep ⟨s1, s2⟩ hb
      have k2 := Bx.keep ⟨s4, s5⟩ hb
      have k3 := Bx.keep ⟨s7, s8⟩ hb
      exact ⟨k1.1, k1.2, k1.lt, k2.1, k2.2, k2.lt, k3.1, k3.2, k3.lt, x, y, s10.keep hb, s11.trans (hb.mono (Nat.le_of_lt s3))⟩
    have HST : Hid (∀ (p : World) (x' y' : Int), (p.cell? ⟨A, 0, none⟩ = some (.int .i64 a.1) ∧ p.cell? ⟨A, 1, none⟩ = some (.int .i64 a.2) ∧ A < p.heap.size ∧ p.cell? ⟨T6, 0, none⟩ = some (.int .i64 pt.1) ∧ p.cell? ⟨T6, 1, none⟩ = some (.int .i64 pt.2) ∧ T6 < p.heap.size ∧ p.cell? ⟨T8, 0, none⟩ = some (.int .i64 qt.1) ∧ p.cell? ⟨T8, 1, none⟩ = some (.int .i64 qt.2) ∧ T8 < p.heap.size ∧ Hid (∃ x y, Bz p (A + 1 + 1) x y ∧ Below A w p)) → (((p.setCell ⟨A + 1 + 1, 0, none⟩ (.int .i64 x')).setCell ⟨A + 1 + 1, 1, none⟩ (.int .i64 y')).cell? ⟨A, 0, none⟩ = some (.int .i64 a.1) ∧ ((p.setCell ⟨A + 1 + 1, 0, none⟩ (.int .i64 x')).setCell ⟨A + 1 + 1, 1, none⟩ (.int .i64 y')).cell? ⟨A, 1, none⟩ = some (.int .i64 a.2) ∧ A < ((p.setCell ⟨A + 1 + 1, 0, none⟩ (.int .i64 x')).setCell ⟨A + 1 + 1, 1, none⟩ (.int .i64 y')).heap.size ∧ ((p.setCell ⟨A + 1 + 1, 0, none⟩ (.int .i64 x')).setCell ⟨A + 1 + 1, 1, none⟩ (.int .i64 y')).cell? ⟨T6, 0, none⟩ = some (.int .i64 pt.1) ∧ ((p.setCell ⟨A + 1 + 1, 0, none⟩ (.int .i64 x')).setCell ⟨A + 1 + 1, 1, none⟩ (.int .i64 y')).cell? ⟨T6, 1, none⟩ = some (.int .i64 pt.2) ∧ T6 < ((p.setCell ⟨A + 1 + 1, 0, none⟩ (.int .i64 x')).setCell ⟨A + 1 + 1, 1, none⟩ (.int .i64 y')).heap.size ∧ ((p.setCell ⟨A + 1 + 1, 0, none⟩ (.int .i64 x')).setCell ⟨A + 1 + 1, 1, none⟩ (.int .i64 y')).cell? ⟨T8, 0, none⟩ = some (.int .i64 qt.1) ∧ ((p.setCell ⟨A + 1 + 1, 0, none⟩ (.int .i64 x')).setCell ⟨A + 1 + 1, 1, none⟩ (.int .i64 y')).cell? ⟨T8, 1, none⟩ = some (.int .i64 qt.2) ∧ T8 < ((p.setCell ⟨A + 1 + 1, 0, none⟩ (.int .i64 x')).setCell ⟨A + 1 + 1, 1, none⟩ (.int .i64 y')).heap.size ∧ Hid (∃ x y, Bz ((p.setCell ⟨A + 1 + 1, 0, none⟩ (.int .i64 x')).setCell ⟨A + 1 + 1, 1, none⟩ (.int .i64 y')) (A + 1 + 1) x y ∧ Below A w ((p.setCell ⟨A + 1 + 1, 0, none⟩ (.int .i64 x')).setCell ⟨A + 1 + 1, 1, none⟩ (.int .i64 y'))))) := fun p x' y' h => by
      obtain ⟨s1, s2, s3, s4, s5, s6, s7, s8, s9, x, y, s10, s11⟩ := h
      have k1 := Bx.set' (q := A + 1 + 1) (by omega) ⟨s1, s2⟩ (.int .i64 x') (.int .i64 y')
      have k2 := Bx.set' (q := A + 1 + 1) HN.out.1 ⟨s4, s5⟩ (.int .i64 x') (.int .i64 y')
      have k3 := Bx.set' (q := A + 1 + 1) HN.out.2 ⟨s7, s8⟩ (.int .i64 x') (.int .i64 y')
      exact ⟨k1.1, k1.2, k1.lt, k2.1, k2.2, k2.lt, k3.1, k3.2, k3.lt, x', y', s10.wrote, (s11.setCell (by simp; omega) _).setCell (by simp; omega) _⟩
    have hS0 : W3.cell? ⟨A, 0, none⟩ = some (.int .i64 a.1) ∧ W3.cell? ⟨A, 1, none⟩ = some (.int .i64 a.2) ∧ A < W3.heap.size ∧ W3.cell? ⟨T6, 0, none⟩ = some (.int .i64 pt.1) ∧ W3.cell? ⟨T6, 1, none⟩ = some (.int .i64 pt.2) ∧ T6 < W3.heap.size ∧ W3.cell? ⟨T8, 0, none⟩ = some (.int .i64 qt.1) ∧ W3.cell? ⟨T8, 1, none⟩ = some (.int .i64 qt.2) ∧ T8 < W3.heap.size ∧ Hid (∃ x y, Bz W3 (A + 1 + 1) x y ∧ Below A w W3) := ⟨HX3.out.1.xa.1, HX3.out.1.xa.2, HX3.out.1.xa.lt, HX3.out.2.1.1, HX3.out.2.1.2, HX3.out.2.1.lt, HX3.out.2.2.1.1, HX3.out.2.2.1.2, HX3.out.2.2.1.lt, 0, 0, HX3.out.1.xr, HX3.out.1.bel⟩
    clear HX3
    go_upto_region 6 with fail
    refine wp_region_held_drew (S := fun w' => w'.cell? ⟨A, 0, none⟩ = some (.int .i64 a.1) ∧ w'.cell? ⟨A, 1, none⟩ = some (.int .i64 a.2) ∧ A < w'.heap.size ∧ w'.cell? ⟨T6, 0, none⟩ = some (.int .i64 pt.1) ∧ w'.cell? ⟨T6, 1, none⟩ = some (.int .i64 pt.2) ∧ T6 < w'.heap.size ∧ w'.cell? ⟨T8, 0, none⟩ = some (.int .i64 qt.1) ∧ w'.cell? ⟨T8, 1, none⟩ = some (.int .i64 qt.2) ∧ T8 < w'.heap.size ∧ Hid (∃ x y, Bz w' (A + 1 + 1) x y ∧ Below A w w')) (by kernel_rfl) (HCL.out _ _ hS0 ((Below.refl _ _).drew)) (fun hHeld => ?_)
    refine wpAnyH_take (i := 0) (oi := ({ dst := some 35, op := Op.load 30 (Operand.tmp 2), type := 30, pos := "two.go:98", after := #[], guard := none } : Oper)) (v := ?_) rfl (by kernel_rfl) (by kernel_rfl) (by kernel_rfl) (fun _ _ _ h => h) (Or.inl ⟨by rfl, ?_⟩) (by assumption) ?_
    rotate_left
    · (intro wz hSw; (try dsimp only at hSw); go_simp; try with_reducible rfl)
    simp only [Act.put, List.setIfInBounds_toArray, List.set_cons_zero, List.set_cons_succ]
    refine wpAnyH_take (i := 1) (oi := ({ dst := some 36, op := Op.load 30 (Operand.tmp 6), type := 30, pos := "two.go:98", after := #[], guard := none } : Oper)) (v := ?_) rfl (by kernel_rfl) (by kernel_rfl) (by kernel_rfl) (fun _ _ _ h => h) (Or.inl ⟨by rfl, ?_⟩) (by assumption) ?_
    rotate_left
    · (intro wz hSw; (try dsimp only at hSw); go_simp; try with_reducible rfl)
    simp only [Act.put, List.setIfInBounds_toArray, List.set_cons_zero, List.set_cons_succ]
    refine wpAnyH_take (i := 3) (oi := ({ dst := some 38, op := Op.load 30 (Operand.tmp 2), type := 30, pos := "two.go:98", after := #[], guard := none } : Oper)) (v := ?_) rfl (by kernel_rfl) (by kernel_rfl) (by kernel_rfl) (fun _ _ _ h => h) (Or.inl ⟨by rfl, ?_⟩) (by assumption) ?_
    rotate_left
    · (intro wz hSw; (try dsimp only at hSw); go_simp; try with_reducible rfl)
    simp only [Act.put, List.setIfInBounds_toArray, List.set_cons_zero, List.set_cons_succ]
    refine wpAnyH_take (i := 4) (oi := ({ dst := some 39, op := Op.load 30 (Operand.tmp 8), type := 30, pos := "two.go:98", after := #[], guard := none } : Oper)) (v := ?_) rfl (by kernel_rfl) (by kernel_rfl) (by kernel_rfl) (fun _ _ _ h => h) (Or.inl ⟨by rfl, ?_⟩) (by assumption) ?_
    rotate_left
    · (intro wz hSw; (try dsimp only at hSw); go_simp; try with_reducible rfl)
    simp only [Act.put, List.setIfInBounds_toArray, List.set_cons_zero, List.set_cons_succ]
    refine wpAnyH_ready (rs := [2]) (by kernel_rfl) (by simp) ?_
    refine AllReadyH.cons (o := ({ dst := some 37, op := Op.call { callee := Callee.value (Operand.func 108), args := #[Operand.tmp 35, Operand.tmp 36], argTypes := #[30, 30] }, type := 30, pos := "two.go:98", after := #[{ on := 0, ground := Ground.data }, { on := 1, ground := Ground.data }], guard := none } : Oper)) rfl (fun K hK => ?_) AllReadyH.nil
    go_simp
    go_at_call 108
    refine (lift (hQ1 _) (by assumption) HCL.out).mono ?_
    rintro e w2 ⟨rfl, h2⟩
    refine hK.out _ _ h2 (fun hHeld => ?_)
    clear hK K
    refine wpAnyH_ready (rs := [5]) (by kernel_rfl) (by simp) ?_
    refine AllReadyH.cons (o := ({ dst := some 40, op := Op.call { callee := Callee.value (Operand.func 108), args := #[Operand.tmp 38, Operand.tmp 39], argTypes := #[30, 30] }, type := 30, pos := "two.go:98", after := #[{ on := 3, ground := Ground.data }, { on := 4, ground := Ground.data }, { on := 2, ground := Ground.chain }], guard := none } : Oper)) rfl (fun K hK => ?_) AllReadyH.nil
    go_simp
    go_at_call 108
    refine (lift (hQ2 _) (by assumption) HCL.out).mono ?_
    rintro e w3 ⟨rfl, h3⟩
    refine hK.out _ _ h3 (fun hHeld => ?_)
    clear hK K
    refine wpAnyH_ready (rs := [6]) (by kernel_rfl) (by simp) ?_
    refine AllReadyH.cons (o := ({ dst := some 41, op := Op.call { callee := Callee.value (Operand.func 62), args := #[Operand.tmp 37, Operand.tmp 40], argTypes := #[30, 30] }, type := 30, pos := "two.go:98", after := #[{ on := 2, ground := Ground.data }, { on := 5, ground := Ground.data }, { on := 5, ground := Ground.chain }], guard := none } : Oper)) rfl (fun K hK => ?_) AllReadyH.nil
    go_simp
    go_at_call 62
    refine (lift (bel3 (njoin_any _ _ _ _ _)) (by assumption) HCL.out).mono ?_
    rintro e w5 ⟨rfl, h5⟩
    obtain ⟨x5, y5, g5, hW5⟩ := h5.2.2.2.2.2.2.2.2.2.out; have z0 := g5.1.1; have z1 := g5.1.2; have z2 := g5.2.1; have z3 := g5.2.2
    refine hK.out _ _ h5 (fun hHeld => ?_)
    clear hK K
    clear hQ1 hQ2
    refine wpAnyH_ready (rs := [7]) (by kernel_rfl) (by simp) ?_
    refine AllReadyH.cons (o := ({ dst := none, op := Op.store 30 (Operand.tmp 4) (Operand.tmp 41), type := 0, pos := "two.go:98", after := #[{ on := 6, ground := Ground.data }, { on := 6, ground := Ground.chain }, { on := 0, ground := Ground.phase }, { on := 1, ground := Ground.phase }, { on := 2, ground := Ground.phase }, { on := 3, ground := Ground.phase }, { on := 4, ground := Ground.phase }, { on := 5, ground := Ground.phase }, { on := 6, ground := Ground.phase }], guard := none } : Oper)) rfl (fun K hK => ?_) AllReadyH.nil
    go_simp
    refine hK.out _ _ (HST.out _ _ _ h5) (fun hHeld => ?_)
    clear hK K
    refine wpAnyH_ready (rs := [8]) (by kernel_rfl) (by simp) ?_
    refine AllReadyH.cons (o := ({ dst := some 5, op := Op.assign (Operand.const (Value.bool true)), type := 4, pos := "two.go:98", after := #[{ on := 7, ground := Ground.chain }, { on := 0, ground := Ground.phase }, { on := 1, ground := Ground.phase }, { on := 2, ground := Ground.phase }, { on := 3, ground := Ground.phase }, { on := 4, ground := Ground.phase }, { on := 5, ground := Ground.phase }, { on := 6, ground := Ground.phase }, { on := 7, ground := Ground.phase }], guard := none } : Oper)) rfl (fun K hK => ?_) AllReadyH.nil
    go_simp
    refine hK.out _ _ hHeld (fun hHeld => ?_)
    clear hK K
    refine wpAnyH_done (by kernel_rfl) ?_ _
    go_wp2
    clear HCL HST hS0 h2 h3 h5
    refine bodyPost_ret (by simp [results, Tryz.results81, go_sem, *]; try rfl) rfl ⟨?_, by rw [← HAA.out]; exact (by repeat (first | assumption | (refine Below.drew ?_) | (refine below_drewN ?_ _) | (refine Below.setCell ?_ (by first | omega | (simp; omega)) _) | (refine Below.alloc ?_ (by first | omega | (simp; omega)) _)))⟩
    rw [HQ.out]
end Go.Proofs.YthiacdbjlkpfgaaGreatDoor
namespace Go.Proofs.YthiacdbjlkpfgaaGreatDoor
open Go.RowKit
set_option maxHeartbeats 4000000 in
theorem sums_any (a b : Int × Int) (w : World) (ha : Sp a) (hb : Sp b) : Calls Tryz.prog 78 #[.agg #[.int .i64 a.1, .int .i64 a.2], .agg #[.int .i64 b.1, .int .i64 b.2]] w fun e w' => e = .returned (.agg #[.int .i64 (sumsP a b).1, .int .i64 (sumsP a b).2]) ∧ Below w.heap.size w w' := by
  have i1 : i64 a.1 := by unfold Sp at ha; unfold i64; omega
  have i2 : i64 a.2 := by unfold Sp at ha; unfold i64; omega
  have i3 : i64 b.1 := by unfold Sp at hb; unfold i64; omega
  have i4 : i64 b.2 := by unfold Sp at hb; unfold i64; omega
  by_cases f1 : fit (a.1 + b.1) = true
  · have g1 := (fit_iff _).1 f1
    have e1 := wrap_fit _ g1.1 g1.2
    by_cases f2 : fit (a.2 + b.2) = true
    · have g2 := (fit_iff _).1 f2
      have e2 := wrap_fit _ g2.1 g2.2
      go_enter Tryz.func78, Tryz.ntmps78
      go_wp2_with (first | (go_at_call 102; refine (sum_any _ _ _ (by assumption) (by assumption)).mono ?_; rintro e w1 ⟨rfl, rfl⟩) | (go_at_call 75; refine (nany_any _).mono ?_; rintro e w1 ⟨rfl, o1, rfl⟩))
      all_goals (refine bodyPost_ret (by simp [results, Tryz.results78, go_sem]; try rfl) rfl ⟨?_, (by repeat (first | exact Below.refl _ _ | (refine Below.drew ?_) | (refine below_drewN ?_ _) | (refine Below.setCell ?_ (by first | omega | (simp; done) | (simp; omega)) _) | (refine Below.alloc ?_ (by first | omega | (simp; done) | (simp; omega)) _) | (refine Below.trans ?_ (Below.mono (by assumption) (by first | omega | (simp; done) | (simp; omega))))))⟩; exact ret_s (by unfold sumsP; rw [f1, f2]; rfl) (by unfold sumsP; rw [f1, f2]; rfl))
    · have f2 : fit (a.2 + b.2) = false := by simpa using f2
      go_enter Tryz.func78, Tryz.ntmps78
      go_wp2_with (first | (go_at_call 102; refine (sum_any _ _ _ (by assumption) (by assumption)).mono ?_; rintro e w1 ⟨rfl, rfl⟩) | (go_at_call 75; refine (nany_any _).mono ?_; rintro e w1 ⟨rfl, o1, rfl⟩))
      all_goals (refine bodyPost_ret (by simp [results, Tryz.results78, go_sem]; try rfl) rfl ⟨?_, (by repeat (first | exact Below.refl _ _ | (refine Below.drew ?_) | (refine below_drewN ?_ _) | (refine Below.setCell ?_ (by first | omega | (simp; done) | (simp; omega)) _) | (refine Below.alloc ?_ (by first | omega | (simp; done) | (simp; omega)) _) | (refine Below.trans ?_ (Below.mono (by assumption) (by first | omega | (simp; done) | (simp; omega))))))⟩; exact ret_s (by unfold sumsP; rw [f1, f2]; rfl) (by unfold sumsP; rw [f1, f2]; rfl))
  · have f1 : fit (a.1 + b.1) = false := by simpa using f1
    go_enter Tryz.func78, Tryz.ntmps78
    go_wp2_with (first | (go_at_call 102; refine (sum_any _ _ _ (by assumption) (by assumption)).mono ?_; rintro e w1 ⟨rfl, rfl⟩) | (go_at_call 75; refine (nany_any _).mono ?_; rintro e w1 ⟨rfl, o1, rfl⟩))
    all_goals (refine bodyPost_ret (by simp [results, Tryz.results78, go_sem]; try rfl) rfl ⟨?_, (by repeat (first | exact Below.refl _ _ | (refine Below.drew ?_) | (refine below_drewN ?_ _) | (refine Below.setCell ?_ (by first | omega | (simp; done) | (simp; omega)) _) | (refine Below.alloc ?_ (by first | omega | (simp; done) | (simp; omega)) _) | (refine Below.trans ?_ (Below.mono (by assumption) (by first | omega | (simp; done) | (simp; omega))))))⟩; exact ret_s (by unfold sumsP; rw [f1]; rfl) (by unfold sumsP; rw [f1]; rfl))
set_option maxHeartbeats 4000000 in
theorem differences_any (a b : Int × Int) (w : World) (ha : Sp a) (hb : Sp b) : Calls Tryz.prog 79 #[.agg #[.int .i64 a.1, .int .i64 a.2], .agg #[.int .i64 b.1, .int .i64 b.2]] w fun e w' => e = .returned (.agg #[.int .i64 (diffsP a b).1, .int .i64 (diffsP a b).2]) ∧ Below w.heap.size w w' := by
  have i1 : i64 a.1 := by unfold Sp at ha; unfold i64; omega
  have i2 : i64 a.2 := by unfold Sp at ha; unfold i64; omega
  have i3 : i64 b.1 := by unfold Sp at hb; unfold i64; omega
  have i4 : i64 b.2 := by unfold Sp at hb; unfold i64; omega
  by_cases f1 : fit (a.1 - b.2) = true
  · have g1 := (fit_iff _).1 f1
    have e1 := wrap_fit _ g1.1 g1.2
    by_cases f2 : fit (a.2 - b.1) = true
    · have g2 := (fit_iff _).1 f2
      have e2 := wrap_fit _ g2.1 g2.2
      go_enter Tryz.func79, Tryz.ntmps79
      go_wp2_with (first | (go_at_call 103; refine (difference_any _ _ _ (by assumption) (by assumption)).mono ?_; rintro e w1 ⟨rfl, rfl⟩) | (go_at_call 75; refine (nany_any _).mono ?_; rintro e w1 ⟨rfl, o1, rfl⟩))
      all_goals (refine bodyPost_ret (by simp [results, Tryz.results79, go_sem]; try rfl) rfl ⟨?_, (by repeat (first | exact Below.refl _ _ | (refine Below.drew ?_) | (refine below_drewN ?_ _) | (refine Below.setCell ?_ (by first | omega | (simp; done) | (simp; omega)) _) | (refine Below.alloc ?_ (by first | omega | (simp; done) | (simp; omega)) _) | (refine Below.trans ?_ (Below.mono (by assumption) (by first | omega | (simp; done) | (simp; omega))))))⟩; exact ret_s (by unfold diffsP; rw [f1, f2]; rfl) (by unfold diffsP; rw [f1, f2]; rfl))
    · have f2 : fit (a.2 - b.1) = false := by simpa using f2
      go_enter Tryz.func79, Tryz.ntmps79
      go_wp2_with (first | (go_at_call 103; refine (difference_any _ _ _ (by assumption) (by assumption)).mono ?_; rintro e w1 ⟨rfl, rfl⟩) | (go_at_call 75; refine (nany_any _).mono ?_; rintro e w1 ⟨rfl, o1, rfl⟩))
      all_goals (refine bodyPost_ret (by simp [results, Tryz.results79, go_sem]; try rfl) rfl ⟨?_, (by repeat (first | exact Below.refl _ _ | (refine Below.drew ?_) | (refine below_drewN ?_ _) | (refine Below.setCell ?_ (by first | omega | (simp; done) | (simp; omega)) _) | (refine Below.alloc ?_ (by first | omega | (simp; done) | (simp; omega)) _) | (refine Below.trans ?_ (Below.mono (by assumption) (by first | omega | (simp; done) | (simp; omega))))))⟩; exact ret_s (by unfold diffsP; rw [f1, f2]; rfl) (by unfold diffsP; rw [f1, f2]; rfl))
  · have f1 : fit (a.1 - b.2) = false := by simpa using f1
    go_enter Tryz.func79, Tryz.ntmps79
    go_wp2_with (first | (go_at_call 103; refine (difference_any _ _ _ (by assumption) (by assumption)).mono ?_; rintro e w1 ⟨rfl, rfl⟩) | (go_at_call 75; refine (nany_any _).mono ?_; rintro e w1 ⟨rfl, o1, rfl⟩))
    all_goals (refine bodyPost_ret (by simp [results, Tryz.results79, go_sem]; try rfl) rfl ⟨?_, (by repeat (first | exact Below.refl _ _ | (refine Below.drew ?_) | (refine below_drewN ?_ _) | (refine Below.setCell ?_ (by first | omega | (simp; done) | (simp; omega)) _) | (refine Below.alloc ?_ (by first | omega | (simp; done) | (simp; omega)) _) | (refine Below.trans ?_ (Below.mono (by assumption) (by first | omega | (simp; done) | (simp; omega))))))⟩; exact ret_s (by unfold diffsP; rw [f1]; rfl) (by unfold diffsP; rw [f1]; rfl))
end Go.Proofs.YthiacdbjlkpfgaaGreatDoor
namespace Go.Proofs.YthiacdbjlkpfgaaGreatDoor
open Go.RowKit
set_option maxHeartbeats 4000000 in
theorem ands_any (a b : Int × Int) (w : World) : Calls Tryz.prog 83 #[.agg #[.int .i64 a.1, .int .i64 a.2], .agg #[.int .i64 b.1, .int .i64 b.2]] w fun e w' => e = .returned (.agg #[.int .i64 (andsP a b).1, .int .i64 (andsP a b).2]) ∧ Below w.heap.size w w' := by
  by_cases h1 : 0 ≤ a.1 <;> by_cases h2 : 0 ≤ b.1 <;> by_cases h3 : a.2 < 0 <;> by_cases h4 : b.2 < 0 <;>
  · go_enter Tryz.func83, Tryz.ntmps83
    go_wp2
    all_goals (refine bodyPost_ret (by simp [results, Tryz.results83, go_sem]; try rfl) rfl ⟨?_, (by repeat (first | exact Below.refl _ _ | (refine Below.drew ?_) | (refine below_drewN ?_ _) | (refine Below.setCell ?_ (by first | omega | (simp; done) | (simp; omega)) _) | (refine Below.alloc ?_ (by first | omega | (simp; done) | (simp; omega)) _) | (refine Below.trans ?_ (Below.mono (by assumption) (by first | omega | (simp; done) | (simp; omega))))))⟩; exact ret_s (by unfold andsP; repeat' (first | rfl | omega | (dsimp only; omega) | split | (exfalso; omega))) (by unfold andsP; repeat' (first | rfl | omega | (dsimp only; omega) | split | (exfalso; omega))))
set_option maxHeartbeats 4000000 in
theorem lesses_any (a b : Int × Int) (w : World) : Calls Tryz.prog 85 #[.agg #[.int .i64 a.1, .int .i64 a.2], .agg #[.int .i64 b.1, .int .i64 b.2]] w fun e w' => e = .returned (.agg #[.int .i64 (lessP a b).1, .int .i64 (lessP a b).2]) ∧ Below w.heap.size w w' := by
  by_cases h1 : a.2 < b.1 <;> by_cases h2 : b.2 ≤ a.1 <;>
  · go_enter Tryz.func85, Tryz.ntmps85
    go_wp2_with (go_at_call 65; refine (nof_any _ _).mono ?_; rintro e w1 ⟨rfl, o1, rfl⟩)
    all_goals (refine bodyPost_ret (by simp [results, Tryz.results85, go_sem]; try rfl) rfl ⟨?_, (by repeat (first | exact Below.refl _ _ | (refine Below.drew ?_) | (refine below_drewN ?_ _) | (refine Below.setCell ?_ (by first | omega | (simp; done) | (simp; omega)) _) | (refine Below.alloc ?_ (by first | omega | (simp; done) | (simp; omega)) _) | (refine Below.trans ?_ (Below.mono (by assumption) (by first | omega | (simp; done) | (simp; omega))))))⟩; exact ret_s (by unfold lessP; repeat' (first | rfl | omega | (dsimp only; omega) | split | (exfalso; omega))) (by unfold lessP; repeat' (first | rfl | omega | (dsimp only; omega) | split | (exfalso; omega))))
end Go.Proofs.YthiacdbjlkpfgaaGreatDoor
