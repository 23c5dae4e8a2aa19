import Derived.Test.YthiacdbjlkpfgaaGreatDoorG05
import Derived.Test.YthiacdbjlkpfgaaGreatDoorG11
import Derived.Test.YthiacdbjlkpfgaaGreatDoorG12
import Derived.Test.YthiacdbjlkpfgaaGreatDoorG13
namespace Go.Proofs.YthiacdbjlkpfgaaGreatDoor
open Go.RowKit
theorem quots_any (a b : Int × Int) (w : World) (ha : Sp a) (hb : Sp b) : Calls Tryz.prog 81 #[.agg #[.int .i64 a.1, .int .i64 a.2], .agg #[.int .i64 b.1, .int .i64 b.2]] w fun e w' => e = .returned (.tuple #[.agg #[.int .i64 ((quotsP a b).1).1, .int .i64 ((quotsP a b).1).2], .bool (quotsP a b).2]) ∧ Below w.heap.size w w' := by
  by_cases hA : a.1 = -9223372036854775808 ∧ b.1 ≤ -1 ∧ -1 ≤ b.2
  · exact quots_all a b w ha hb hA
  by_cases h1 : b.1 ≤ -1
  · by_cases h2 : 1 ≤ b.2
    · exact quots_both a b w ha hb hA h1 h2
    · exact quots_below a b w ha hb hA h1 h2
  · by_cases h2 : 1 ≤ b.2
    · exact quots_above a b w ha hb hA h1 h2
    · exact quots_none a b w ha hb hA h1 h2
set_option maxRecDepth 100000 in
set_option maxHeartbeats 16000000 in
theorem two_any (op : Int) (a b : Int × Int) (w : World) (ha : Sp a) (hb : Sp b) : Calls Tryz.prog 36 #[.int .i64 op, .agg #[.int .i64 a.1, .int .i64 a.2], .agg #[.int .i64 b.1, .int .i64 b.2]] w fun e w' => e = .returned (.tuple #[.agg #[.int .i64 ((twoP op a b).1).1, .int .i64 ((twoP op a b).1).2], .bool (twoP op a b).2]) ∧ Below w.heap.size w w' := by
  by_cases q4 : op = 4
  · subst q4
    have e : twoP 4 a b = (sumsP a b, true) := by unfold twoP; simp only [Int.reduceEq, if_false, if_true]
    have hC := fun w => sums_any a b w ha hb
    rw [e]
    dsimp only
    generalize sumsP a b = r at *
    clear e ha hb
    go_enter Tryz.func36, Tryz.ntmps36
    go_wp2_with (go_at_call 78; refine (hC _).mono ?_; rintro e wQ ⟨rfl, hbQ⟩; obtain ⟨hcQ, hfQ⟩ := bcell hbQ; have hzQ := hbQ.size; simp at hzQ)
    clear hC
    refine bodyPost_ret (by simp [results, Tryz.results36, go_sem, *]; try rfl) rfl ⟨?_, (by repeat (first | exact Below.refl _ _ | (refine Below.drew ?_) | (refine below_drewN ?_ _) | (refine Below.setCell ?_ (by first | omega | (simp; done) | (simp; omega)) _) | (refine Below.alloc ?_ (by first | omega | (simp; done) | (simp; omega)) _) | (refine Below.trans ?_ (Below.mono (by assumption) (by first | omega | (simp; done) | (simp; omega))))))⟩
    rfl
  by_cases q5 : op = 5
  · subst q5
    have e : twoP 5 a b = (diffsP a b, true) := by unfold twoP; simp only [Int.reduceEq, if_false, if_true]
    have hC := fun w => differences_any a b w ha hb
    rw [e]
    dsimp only
    generalize diffsP a b = r at *
    clear e ha hb
    go_enter Tryz.func36, Tryz.ntmps36
    go_wp2_with (go_at_call 79; refine (hC _).mono ?_; rintro e wQ ⟨rfl, hbQ⟩; obtain ⟨hcQ, hfQ⟩ := bcell hbQ; have hzQ := hbQ.size; simp at hzQ)
    clear hC
    refine bodyPost_ret (by simp [results, Tryz.results36, go_sem, *]; try rfl) rfl ⟨?_, (by repeat (first | exact Below.refl _ _ | (refine Below.drew ?_) | (refine below_drewN ?_ _) | (refine Below.setCell ?_ (by first | omega | (simp; done) | (simp; omega)) _) | (refine Below.alloc ?_ (by first | omega | (simp; done) | (simp; omega)) _) | (refine Below.trans ?_ (Below.mono (by assumption) (by first | omega | (simp; done) | (simp; omega))))))⟩
    rfl
  by_cases q6 : op = 6
  · subst q6
    have e : twoP 6 a b = (prodsP a b, true) := by unfold twoP; simp only [Int.reduceEq, if_false, if_true]
    have hC := fun w => products_any a b w ha hb
    rw [e]
    dsimp only
    generalize prodsP a b = r at *
    clear e ha hb
    go_enter Tryz.func36, Tryz.ntmps36
    go_wp2_with (go_at_call 80; refine (hC _).mono ?_; rintro e wQ ⟨rfl, hbQ⟩; obtain ⟨hcQ, hfQ⟩ := bcell hbQ; have hzQ := hbQ.size; simp at hzQ)
    clear hC
    refine bodyPost_ret (by simp [results, Tryz.results36, go_sem, *]; try rfl) rfl ⟨?_, (by repeat (first | exact Below.refl _ _ | (refine Below.drew ?_) | (refine below_drewN ?_ _) | (refine Below.setCell ?_ (by first | omega | (simp; done) | (simp; omega)) _) | (refine Below.alloc ?_ (by first | omega | (simp; done) | (simp; omega)) _) | (refine Below.trans ?_ (Below.mono (by assumption) (by first | omega | (simp; done) | (simp; omega))))))⟩
    rfl
  by_cases q7 : op = 7
  · subst q7
    have e : twoP 7 a b = quotsP a b := by unfold twoP; simp only [Int.reduceEq, if_false, if_true]
    have hC := fun w => quots_any a b w ha hb
    rw [e]
    generalize quotsP a b = r at *
    clear e ha hb
    go_enter Tryz.func36, Tryz.ntmps36
    go_wp2_with (go_at_call 81; refine (hC _).mono ?_; rintro e wQ ⟨rfl, hbQ⟩; obtain ⟨hcQ, hfQ⟩ := bcell hbQ; have hzQ := hbQ.size; simp at hzQ)
    clear hC
    refine bodyPost_ret (by simp [results, Tryz.results36, go_sem, *]; try rfl) rfl ⟨?_, (by repeat (first | exact Below.refl _ _ | (refine Below.drew ?_) | (refine below_drewN ?_ _) | (refine Below.setCell ?_ (by first | omega | (simp; done) | (simp; omega)) _) | (refine Below.alloc ?_ (by first | omega | (simp; done) | (simp; omega)) _) | (refine Below.trans ?_ (Below.mono (by assumption) (by first | omega | (simp; done) | (simp; omega))))))⟩
    rfl
  by_cases q8 : op = 8
  · subst q8
    have e : twoP 8 a b = remsP a b := by unfold twoP; simp only [Int.reduceEq, if_false, if_true]
    have hC := fun w => rems_any a.1 a.2 b.1 b.2 w ha hb
    rw [e]
    generalize remsP a b = r at *
    clear e ha hb
    go_enter Tryz.func36, Tryz.ntmps36
    go_wp2_with (go_at_call 82; refine (hC _).mono ?_; rintro e wQ ⟨rfl, hbQ⟩; obtain ⟨hcQ, hfQ⟩ := bcell hbQ; have hzQ := hbQ.size; simp at hzQ)
    clear hC
    refine bodyPost_ret (by simp [results, Tryz.results36, go_sem, *]; try rfl) rfl ⟨?_, (by repeat (first | exact Below.refl _ _ | (refine Below.drew ?_) | (refine below_drewN ?_ _) | (refine Below.setCell ?_ (by first | omega | (simp; done) | (simp; omega)) _) | (refine Below.alloc ?_ (by first | omega | (simp; done) | (simp; omega)) _) | (refine Below.trans ?_ (Below.mono (by assumption) (by first | omega | (simp; done) | (simp; omega))))))⟩
    rfl
  by_cases q9 : op = 9
  · subst q9
    have e : twoP 9 a b = (andsP a b, true) := by unfold twoP; simp only [Int.reduceEq, if_false, if_true]
    have hC := fun w => ands_any a b w
    rw [e]
    dsimp only
    generalize andsP a b = r at *
    clear e ha hb
    go_enter Tryz.func36, Tryz.ntmps36
    go_wp2_with (go_at_call 83; refine (hC _).mono ?_; rintro e wQ ⟨rfl, hbQ⟩; obtain ⟨hcQ, hfQ⟩ := bcell hbQ; have hzQ := hbQ.size; simp at hzQ)
    clear hC
    refine bodyPost_ret (by simp [results, Tryz.results36, go_sem, *]; try rfl) rfl ⟨?_, (by repeat (first | exact Below.refl _ _ | (refine Below.drew ?_) | (refine below_drewN ?_ _) | (refine Below.setCell ?_ (by first | omega | (simp; done) | (simp; omega)) _) | (refine Below.alloc ?_ (by first | omega | (simp; done) | (simp; omega)) _) | (refine Below.trans ?_ (Below.mono (by assumption) (by first | omega | (simp; done) | (simp; omega))))))⟩
    rfl
  by_cases q10 : op = 10
  · subst q10
    have e : twoP 10 a b = (xorsP a b, true) := by unfold twoP; simp only [Int.reduceEq, if_false, if_true]
    have hC := fun w => xors_any a b w ha hb
    rw [e]
    dsimp only
    generalize xorsP a b = r at *
    clear e ha hb
    go_enter Tryz.func36, Tryz.ntmps36
    go_wp2_with (go_at_call 84; refine (hC _).mono ?_; rintro e wQ ⟨rfl, hbQ⟩; obtain ⟨hcQ, hfQ⟩ := bcell hbQ; have hzQ := hbQ.size; simp at hzQ)
    clear hC
    refine bodyPost_ret (by simp [results, Tryz.results36, go_sem, *]; try rfl) rfl ⟨?_, (by repeat (first | exact Below.refl _ _ | (refine Below.drew ?_) | (refine below_drewN ?_ _) | (refine Below.setCell ?_ (by first | omega | (simp; done) | (simp; omega)) _) | (refine Below.alloc ?_ (by first | omega | (simp; done) | (simp; omega)) _) | (refine Below.trans ?_ (Below.mono (by assumption) (by first | omega | (simp; done) | (simp; omega))))))⟩
    rfl
  by_cases q11 : op = 11
  · subst q11
    have e : twoP 11 a b = (lessP a b, true) := by unfold twoP; simp only [Int.reduceEq, if_false, if_true]
    have hC := fun w => lesses_any a b w
    rw [e]
    dsimp only
    generalize lessP a b = r at *
    clear e ha hb
    go_enter Tryz.func36, Tryz.ntmps36
    go_wp2_with (go_at_call 85; refine (hC _).mono ?_; rintro e wQ ⟨rfl, hbQ⟩; obtain ⟨hcQ, hfQ⟩ := bcell hbQ; have hzQ := hbQ.size; simp at hzQ)
    clear hC
    refine bodyPost_ret (by simp [results, Tryz.results36, go_sem, *]; try rfl) rfl ⟨?_, (by repeat (first | exact Below.refl _ _ | (refine Below.drew ?_) | (refine below_drewN ?_ _) | (refine Below.setCell ?_ (by first | omega | (simp; done) | (simp; omega)) _) | (refine Below.alloc ?_ (by first | omega | (simp; done) | (simp; omega)) _) | (refine Below.trans ?_ (Below.mono (by assumption) (by first | omega | (simp; done) | (simp; omega))))))⟩
    rfl
  by_cases q12 : op = 12
  · subst q12
    have e : twoP 12 a b = (sameP a b, true) := by unfold twoP; simp only [Int.reduceEq, if_false, if_true]
    have hC := fun w => sames_any a.1 a.2 b.1 b.2 w ha hb
    rw [e]
    dsimp only
    generalize sameP a b = r at *
    clear e ha hb
    go_enter Tryz.func36, Tryz.ntmps36
    go_wp2_with (go_at_call 86; refine (hC _).mono ?_; rintro e wQ ⟨rfl, hbQ⟩; obtain ⟨hcQ, hfQ⟩ := bcell hbQ; have hzQ := hbQ.size; simp at hzQ)
    clear hC
    refine bodyPost_ret (by simp [results, Tryz.results36, go_sem, *]; try rfl) rfl ⟨?_, (by repeat (first | exact Below.refl _ _ | (refine Below.drew ?_) | (refine below_drewN ?_ _) | (refine Below.setCell ?_ (by first | omega | (simp; done) | (simp; omega)) _) | (refine Below.alloc ?_ (by first | omega | (simp; done) | (simp; omega)) _) | (refine Below.trans ?_ (Below.mono (by assumption) (by first | omega | (simp; done) | (simp; omega))))))⟩
    rfl
  have e : twoP op a b = ((0, 0), false) := by unfold twoP; rw [if_neg q4, if_neg q5, if_neg q6, if_neg q7, if_neg q8, if_neg q9, if_neg q10, if_neg q11, if_neg q12]
  rw [e]
  clear e ha hb
  go_enter Tryz.func36, Tryz.ntmps36
  go_wp2_with fail
  refine bodyPost_ret (by simp [results, Tryz.results36, go_sem]; try rfl) rfl ⟨?_, (by repeat (first | exact Below.refl _ _ | (refine Below.drew ?_) | (refine below_drewN ?_ _) | (refine Below.setCell ?_ (by first | omega | (simp; done) | (simp; omega)) _) | (refine Below.alloc ?_ (by first | omega | (simp; done) | (simp; omega)) _) | (refine Below.trans ?_ (Below.mono (by assumption) (by first | omega | (simp; done) | (simp; omega))))))⟩
  rfl
end Go.Proofs.YthiacdbjlkpfgaaGreatDoor
