import Derived.Test.YthiacdbjlkpfgaaGreatDoorG05
import Derived.WalkSmall
import Derived.Deep.RegionHeld3
import Derived.RegionTactic
namespace Go.Proofs.YthiacdbjlkpfgaaGreatDoor
open Go.RowKit
theorem ret_i {x y : Int} (h1 : x = y) : Ending.returned (.int .i64 y) = Ending.returned (.int .i64 x) := by subst h1; rfl
def oneP (op : Int) (a : Int × Int) : (Int × Int) × Bool :=
  if op = 2 then (a, true)
  else if op = 3 then
    (if a.1 ≠ -9223372036854775808 then ((-a.2, -a.1), true)
    else if a.2 = -9223372036854775808 then (a, true)
    else (allP, true))
  else ((0, 0), false)
def brT (a : Int × Int) : (Int × Int) × Bool :=
  if a.1 = 0 ∧ a.2 = 0 then ((0, 0), false)
  else if a.1 = 0 then ((1, a.2), true)
  else if a.2 = 0 then ((a.1, -1), true)
  else (a, true)
def brF (a : Int × Int) : (Int × Int) × Bool := if a.1 ≤ 0 ∧ 0 ≤ a.2 then ((0, 0), true) else ((0, 0), false)
def branchP (a : Int × Int) (yes : Bool) : (Int × Int) × Bool := if yes then brT a else brF a
end Go.Proofs.YthiacdbjlkpfgaaGreatDoor
namespace Go.Proofs.YthiacdbjlkpfgaaGreatDoor
open Go.RowKit
set_option maxHeartbeats 4000000 in
theorem far_any (b : Int × Int) (w : World) (hb : Sp b) : Calls Tryz.prog 109 #[.agg #[.int .i64 b.1, .int .i64 b.2]] w fun e w' => e = .returned (.int .i64 (farP b)) ∧ New1 w w' := by
  unfold Sp at hb
  obtain ⟨b1, b2, b3⟩ := hb
  go_enter Tryz.func109, Tryz.ntmps109
  go_wp2
  all_goals (go_ret; refine ⟨?_, _, rfl⟩; exact ret_i (by unfold farP; omega))
def oppP (a : Int × Int) : Int × Int :=
  if a.1 ≠ -9223372036854775808 then (-a.2, -a.1)
  else if a.2 = -9223372036854775808 then a
  else allP
set_option maxHeartbeats 4000000 in
theorem opp_any (a : Int × Int) (w : World) (ha : Sp a) : Calls Tryz.prog 54 #[.agg #[.int .i64 a.1, .int .i64 a.2]] w fun e w' => e = .returned (.agg #[.int .i64 (oppP a).1, .int .i64 (oppP a).2]) ∧ Below w.heap.size w w' := by
  unfold Sp at ha
  obtain ⟨a1, a2, a3⟩ := ha
  by_cases h1 : a.1 = -9223372036854775808
  · by_cases h2 : a.2 = -9223372036854775808
    · go_enter Tryz.func54, Tryz.ntmps54
      go_wp2_with (go_at_call 75; refine (nany_any _).mono ?_; rintro e w1 ⟨rfl, o1, rfl⟩)
      all_goals (refine bodyPost_ret (by simp [results, Tryz.results54, go_sem]; try rfl) rfl ⟨?_, (by repeat (first | exact Below.refl _ _ | (refine Below.drew ?_) | (refine below_drewN ?_ _) | (refine Below.setCell ?_ (by first | omega | (simp; done) | (simp; omega)) _) | (refine Below.alloc ?_ (by first | omega | (simp; done) | (simp; omega)) _) | (refine Below.trans ?_ (Below.mono (by assumption) (by first | omega | (simp; done) | (simp; omega))))))⟩; exact ret_s (by unfold oppP; repeat' (first | rfl | omega | (dsimp only; omega) | split | (exfalso; omega))) (by unfold oppP; repeat' (first | rfl | omega | (dsimp only; omega) | split | (exfalso; omega))))
    · go_enter Tryz.func54, Tryz.ntmps54
      go_wp2_with (go_at_call 75; refine (nany_any _).mono ?_; rintro e w1 ⟨rfl, o1, rfl⟩)
      all_goals (refine bodyPost_ret (by simp [results, Tryz.results54, go_sem]; try rfl) rfl ⟨?_, (by repeat (first | exact Below.refl _ _ | (refine Below.drew ?_) | (refine below_drewN ?_ _) | (refine Below.setCell ?_ (by first | omega | (simp; done) | (simp; omega)) _) | (refine Below.alloc ?_ (by first | omega | (simp; done) | (simp; omega)) _) | (refine Below.trans ?_ (Below.mono (by assumption) (by first | omega | (simp; done) | (simp; omega))))))⟩; exact ret_s (by unfold oppP allP; repeat' (first | rfl | omega | (dsimp only; omega) | split | (exfalso; omega))) (by unfold oppP allP; repeat' (first | rfl | omega | (dsimp only; omega) | split | (exfalso; omega))))
  · go_enter Tryz.func54, Tryz.ntmps54
    go_wp2_with (go_at_call 75; refine (nany_any _).mono ?_; rintro e w1 ⟨rfl, o1, rfl⟩)
    all_goals (refine bodyPost_ret (by simp [results, Tryz.results54, go_sem]; try rfl) rfl ⟨?_, (by repeat (first | exact Below.refl _ _ | (refine Below.drew ?_) | (refine below_drewN ?_ _) | (refine Below.setCell ?_ (by first | omega | (simp; done) | (simp; omega)) _) | (refine Below.alloc ?_ (by first | omega | (simp; done) | (simp; omega)) _) | (refine Below.trans ?_ (Below.mono (by assumption) (by first | omega | (simp; done) | (simp; omega))))))⟩; exact ret_s (by unfold oppP; repeat' (first | rfl | omega | (dsimp only; omega) | split | (exfalso; omega))) (by unfold oppP; repeat' (first | rfl | omega | (dsimp only; omega) | split | (exfalso; omega))))
set_option maxHeartbeats 4000000 in
theorem one_any (op : Int) (a : Int × Int) (w : World) (ha : Sp a) : Calls Tryz.prog 17 #[.int .i64 op, .agg #[.int .i64 a.1, .int .i64 a.2]] w fun e w' => e = .returned (.tuple #[.agg #[.int .i64 ((oneP op a).1).1, .int .i64 ((oneP op a).1).2], .bool (oneP op a).2]) ∧ Below w.heap.size w w' := by
  by_cases q2 : op = 2
  · subst q2
    go_enter Tryz.func17, Tryz.ntmps17
    go_wp2
    all_goals (refine bodyPost_ret (by simp [results, Tryz.results17, go_sem]; try rfl) rfl ⟨?_, (by repeat (first | exact Below.refl _ _ | (refine Below.drew ?_) | (refine below_drewN ?_ _) | (refine Below.setCell ?_ (by first | omega | (simp; done) | (simp; omega)) _) | (refine Below.alloc ?_ (by first | omega | (simp; done) | (simp; omega)) _) | (refine Below.trans ?_ (Below.mono (by assumption) (by first | omega | (simp; done) | (simp; omega))))))⟩; exact ret_sb (by unfold oneP; repeat' (first | rfl | omega | (dsimp only; omega) | split | (exfalso; omega))) (by unfold oneP; repeat' (first | rfl | omega | (dsimp only; omega) | split | (exfalso; omega))) (by unfold oneP; repeat' (first | rfl | omega | (dsimp only; omega) | split | (exfalso; omega))))
  by_cases q3 : op = 3
  · subst q3
    have e : oneP 3 a = (oppP a, true) := by unfold oneP oppP; rw [if_neg (by omega), if_pos rfl]; repeat' (first | rfl | split)
    rw [e]
    go_enter Tryz.func17, Tryz.ntmps17
    go_wp2_with (go_at_call 54; refine (opp_any _ _ ha).mono ?_; rintro e wA ⟨rfl, hbA⟩; obtain ⟨hcA, hfA⟩ := bcell hbA; have hzA := hbA.size; simp at hzA)
    all_goals (refine bodyPost_ret (by simp [results, Tryz.results17, go_sem, *]; try rfl) rfl ⟨?_, (by repeat (first | exact Below.refl _ _ | (refine Below.drew ?_) | (refine below_drewN ?_ _) | (refine Below.setCell ?_ (by first | omega | (simp; done) | (simp; omega)) _) | (refine Below.alloc ?_ (by first | omega | (simp; done) | (simp; omega)) _) | (refine Below.trans ?_ (Below.mono (by assumption) (by first | omega | (simp; done) | (simp; omega))))))⟩; rfl)
  · have e : oneP op a = ((0, 0), false) := by unfold oneP; rw [if_neg q2, if_neg q3]
    rw [e]
    go_enter Tryz.func17, Tryz.ntmps17
    go_wp2
    all_goals (refine bodyPost_ret (by simp [results, Tryz.results17, go_sem]; try rfl) rfl ⟨?_, (by repeat (first | exact Below.refl _ _ | (refine Below.drew ?_) | (refine below_drewN ?_ _) | (refine Below.setCell ?_ (by first | omega | (simp; done) | (simp; omega)) _) | (refine Below.alloc ?_ (by first | omega | (simp; done) | (simp; omega)) _) | (refine Below.trans ?_ (Below.mono (by assumption) (by first | omega | (simp; done) | (simp; omega))))))⟩; rfl)
end Go.Proofs.YthiacdbjlkpfgaaGreatDoor
namespace Go.Proofs.YthiacdbjlkpfgaaGreatDoor
open Go.RowKit
set_option maxHeartbeats 4000000 in
theorem rems_any (al ah bl bh : Int) (w : World) (ha : Sp (al, ah)) (hb : Sp (bl, bh)) : Calls Tryz.prog 82 #[.agg #[.int .i64 al, .int .i64 ah], .agg #[.int .i64 bl, .int .i64 bh]] w fun e w' => e = .returned (.tuple #[.agg #[.int .i64 ((remsP (al, ah) (bl, bh)).1).1, .int .i64 ((remsP (al, ah) (bl, bh)).1).2], .bool (remsP (al, ah) (bl, bh)).2]) ∧ Below w.heap.size w w' := by
  have hbb := hb
  unfold Sp at ha hb
  obtain ⟨a1, a2, a3⟩ := ha
  obtain ⟨b1, b2, b3⟩ := hb
  dsimp only at a1 a2 a3 b1 b2 b3
  by_cases h : bl = 0 ∧ bh = 0
  · obtain ⟨rfl, rfl⟩ := h
    go_enter Tryz.func82, Tryz.ntmps82
    go_wp2_with fail
    go_region_with ((go_at_call 65; refine (nof_any _ _).mono ?_; rintro e w1 ⟨rfl, o1, rfl⟩))
    all_goals go_wp2
    all_goals (refine bodyPost_ret (by simp [results, Tryz.results82, go_sem]; try rfl) rfl ⟨?_, (by repeat (first | exact Below.refl _ _ | (refine Below.drew ?_) | (refine below_drewN ?_ _) | (refine Below.setCell ?_ (by first | omega | (simp; done) | (simp; omega)) _) | (refine Below.alloc ?_ (by first | omega | (simp; done) | (simp; omega)) _) | (refine Below.trans ?_ (Below.mono (by assumption) (by first | omega | (simp; done) | (simp; omega))))))⟩; exact ret_sb (by unfold remsP; repeat' (first | rfl | omega | (dsimp only; omega) | split | (exfalso; omega))) (by unfold remsP; repeat' (first | rfl | omega | (dsimp only; omega) | split | (exfalso; omega))) (by unfold remsP; repeat' (first | rfl | omega | (dsimp only; omega) | split | (exfalso; omega))))
  · have hf : 0 ≤ farP (bl, bh) ∧ farP (bl, bh) ≤ 9223372036854775807 := by unfold farP; dsimp only; omega
    have HR : Hid (remsP (al, ah) (bl, bh) = ((max (min al 0) (-(farP (bl, bh))), min (max ah 0) (farP (bl, bh))), true)) := by unfold Hid remsP; rw [if_neg h]
    have hfa : ∀ w : World, Calls Tryz.prog 109 #[.agg #[.int .i64 bl, .int .i64 bh]] w fun e w' => e = .returned (.int .i64 (farP (bl, bh))) ∧ New1 w w' := fun w => far_any (bl, bh) w hbb
    generalize farP (bl, bh) = m at *
    obtain ⟨m1, m2⟩ := hf
    clear hbb
    by_cases h0 : bl = 0
    · subst h0
      have h0 : ¬ bh = 0 := fun e => h ⟨rfl, e⟩
      clear h
      go_enter Tryz.func82, Tryz.ntmps82
      go_wp2_with fail
      go_region_with ((go_at_call 65; refine (nof_any _ _).mono ?_; rintro e w1 ⟨rfl, o1, rfl⟩))
      all_goals go_wp2_with (go_at_call 109; refine (hfa _).mono ?_; rintro e w1 ⟨rfl, o1, rfl⟩)
      all_goals (refine bodyPost_ret (by simp [results, Tryz.results82, go_sem]; try rfl) rfl ⟨?_, (by repeat (first | exact Below.refl _ _ | (refine Below.drew ?_) | (refine below_drewN ?_ _) | (refine Below.setCell ?_ (by first | omega | (simp; done) | (simp; omega)) _) | (refine Below.alloc ?_ (by first | omega | (simp; done) | (simp; omega)) _) | (refine Below.trans ?_ (Below.mono (by assumption) (by first | omega | (simp; done) | (simp; omega))))))⟩; rw [HR.out]; exact ret_sb (by dsimp only; omega) (by dsimp only; omega) rfl)
    · clear h
      go_enter Tryz.func82, Tryz.ntmps82
      go_wp2_with fail
      go_region_with ((go_at_call 65; refine (nof_any _ _).mono ?_; rintro e w1 ⟨rfl, o1, rfl⟩))
      all_goals go_wp2_with (go_at_call 109; refine (hfa _).mono ?_; rintro e w1 ⟨rfl, o1, rfl⟩)
      all_goals (refine bodyPost_ret (by simp [results, Tryz.results82, go_sem]; try rfl) rfl ⟨?_, (by repeat (first | exact Below.refl _ _ | (refine Below.drew ?_) | (refine below_drewN ?_ _) | (refine Below.setCell ?_ (by first | omega | (simp; done) | (simp; omega)) _) | (refine Below.alloc ?_ (by first | omega | (simp; done) | (simp; omega)) _) | (refine Below.trans ?_ (Below.mono (by assumption) (by first | omega | (simp; done) | (simp; omega))))))⟩; rw [HR.out]; exact ret_sb (by dsimp only; omega) (by dsimp only; omega) rfl)
set_option maxHeartbeats 4000000 in
theorem branch_no (al ah : Int) (w : World) : Calls Tryz.prog 44 #[.agg #[.int .i64 al, .int .i64 ah], .bool false] w fun e w' => e = .returned (.tuple #[.agg #[.int .i64 ((brF (al, ah)).1).1, .int .i64 ((brF (al, ah)).1).2], .bool (brF (al, ah)).2]) ∧ Below w.heap.size w w' := by
  have e : meetP (al, ah) (0, 0) = brF (al, ah) := by
    unfold meetP brF
    dsimp only
    by_cases h : al ≤ 0 ∧ 0 ≤ ah
    · rw [if_pos (by omega), if_pos h]
      simp only [Prod.mk.injEq, and_true]
      omega
    · rw [if_neg (by omega), if_neg h]
  rw [← e]
  have hme : ∀ w : World, Calls Tryz.prog 68 #[.agg #[.int .i64 al, .int .i64 ah], .agg #[.int .i64 0, .int .i64 0]] w fun e w' => e = .returned (.tuple #[.agg #[.int .i64 ((meetP (al, ah) (0, 0)).1).1, .int .i64 ((meetP (al, ah) (0, 0)).1).2], .bool (meetP (al, ah) (0, 0)).2]) ∧ New5 w w' := fun w => nmeet_any (al, ah) (0, 0) w
  clear e
  generalize meetP (al, ah) (0, 0) = r at *
  go_enter Tryz.func44, Tryz.ntmps44
  go_wp2_with fail
  go_region_with (first | (go_at_call 65; refine (nof_any _ _).mono ?_; rintro e w1 ⟨rfl, o1, rfl⟩) | (go_at_call 68; refine (hme _).mono ?_; rintro e w1 ⟨rfl, o1, o2, o3, o4, o5, rfl⟩))
  all_goals go_wp2
  all_goals (refine bodyPost_ret (by simp [results, Tryz.results44, go_sem]; try rfl) rfl ⟨?_, (by repeat (first | exact Below.refl _ _ | (refine Below.drew ?_) | (refine below_drewN ?_ _) | (refine Below.setCell ?_ (by first | omega | (simp; done) | (simp; omega)) _) | (refine Below.alloc ?_ (by first | omega | (simp; done) | (simp; omega)) _) | (refine Below.trans ?_ (Below.mono (by assumption) (by first | omega | (simp; done) | (simp; omega))))))⟩; rfl)
set_option maxHeartbeats 4000000 in
theorem branch_yes (al ah : Int) (w : World) : Calls Tryz.prog 44 #[.agg #[.int .i64 al, .int .i64 ah], .bool true] w fun e w' => e = .returned (.tuple #[.agg #[.int .i64 ((brT (al, ah)).1).1, .int .i64 ((brT (al, ah)).1).2], .bool (brT (al, ah)).2]) ∧ Below w.heap.size w w' := by
  by_cases h1 : al = 0
  · subst h1
    by_cases h2 : ah = 0
    · subst h2
      go_enter Tryz.func44, Tryz.ntmps44
      go_wp2_with fail
      go_region_with ((go_at_call 65; refine (nof_any _ _).mono ?_; rintro e w1 ⟨rfl, o1, rfl⟩))
      all_goals go_wp2
      all_goals (refine bodyPost_ret (by simp [results, Tryz.results44, go_sem]; try rfl) rfl ⟨?_, (by repeat (first | exact Below.refl _ _ | (refine Below.drew ?_) | (refine below_drewN ?_ _) | (refine Below.setCell ?_ (by first | omega | (simp; done) | (simp; omega)) _) | (refine Below.alloc ?_ (by first | omega | (simp; done) | (simp; omega)) _) | (refine Below.trans ?_ (Below.mono (by assumption) (by first | omega | (simp; done) | (simp; omega))))))⟩; exact ret_sb (by unfold brT; repeat' (first | rfl | omega | (dsimp only; omega) | split | (exfalso; omega))) (by unfold brT; repeat' (first | rfl | omega | (dsimp only; omega) | split | (exfalso; omega))) (by unfold brT; repeat' (first | rfl | omega | (dsimp only; omega) | split | (exfalso; omega))))
    · go_enter Tryz.func44, Tryz.ntmps44
      go_wp2_with fail
      go_region_with ((go_at_call 65; refine (nof_any _ _).mono ?_; rintro e w1 ⟨rfl, o1, rfl⟩))
      all_goals go_wp2
      all_goals (refine bodyPost_ret (by simp [results, Tryz.results44, go_sem]; try rfl) rfl ⟨?_, (by repeat (first | exact Below.refl _ _ | (refine Below.drew ?_) | (refine below_drewN ?_ _) | (refine Below.setCell ?_ (by first | omega | (simp; done) | (simp; omega)) _) | (refine Below.alloc ?_ (by first | omega | (simp; done) | (simp; omega)) _) | (refine Below.trans ?_ (Below.mono (by assumption) (by first | omega | (simp; done) | (simp; omega))))))⟩; exact ret_sb (by unfold brT; repeat' (first | rfl | omega | (dsimp only; omega) | split | (exfalso; omega))) (by unfold brT; repeat' (first | rfl | omega | (dsimp only; omega) | split | (exfalso; omega))) (by unfold brT; repeat' (first | rfl | omega | (dsimp only; omega) | split | (exfalso; omega))))
  · by_cases h2 : ah = 0
    · subst h2
      go_enter Tryz.func44, Tryz.ntmps44
      go_wp2_with fail
      go_region_with ((go_at_call 65; refine (nof_any _ _).mono ?_; rintro e w1 ⟨rfl, o1, rfl⟩))
      all_goals go_wp2
      all_goals (refine bodyPost_ret (by simp [results, Tryz.results44, go_sem]; try rfl) rfl ⟨?_, (by repeat (first | exact Below.refl _ _ | (refine Below.drew ?_) | (refine below_drewN ?_ _) | (refine Below.setCell ?_ (by first | omega | (simp; done) | (simp; omega)) _) | (refine Below.alloc ?_ (by first | omega | (simp; done) | (simp; omega)) _) | (refine Below.trans ?_ (Below.mono (by assumption) (by first | omega | (simp; done) | (simp; omega))))))⟩; exact ret_sb (by unfold brT; repeat' (first | rfl | omega | (dsimp only; omega) | split | (exfalso; omega))) (by unfold brT; repeat' (first | rfl | omega | (dsimp only; omega) | split | (exfalso; omega))) (by unfold brT; repeat' (first | rfl | omega | (dsimp only; omega) | split | (exfalso; omega))))
    · go_enter Tryz.func44, Tryz.ntmps44
      go_wp2_with fail
      go_region_with ((go_at_call 65; refine (nof_any _ _).mono ?_; rintro e w1 ⟨rfl, o1, rfl⟩))
      all_goals go_wp2
      all_goals (refine bodyPost_ret (by simp [results, Tryz.results44, go_sem]; try rfl) rfl ⟨?_, (by repeat (first | exact Below.refl _ _ | (refine Below.drew ?_) | (refine below_drewN ?_ _) | (refine Below.setCell ?_ (by first | omega | (simp; done) | (simp; omega)) _) | (refine Below.alloc ?_ (by first | omega | (simp; done) | (simp; omega)) _) | (refine Below.trans ?_ (Below.mono (by assumption) (by first | omega | (simp; done) | (simp; omega))))))⟩; exact ret_sb (by unfold brT; repeat' (first | rfl | omega | (dsimp only; omega) | split | (exfalso; omega))) (by unfold brT; repeat' (first | rfl | omega | (dsimp only; omega) | split | (exfalso; omega))) (by unfold brT; repeat' (first | rfl | omega | (dsimp only; omega) | split | (exfalso; omega))))
theorem branch_any (a : Int × Int) (yes : Bool) (w : World) : Calls Tryz.prog 44 #[.agg #[.int .i64 a.1, .int .i64 a.2], .bool yes] w fun e w' => e = .returned (.tuple #[.agg #[.int .i64 ((branchP a yes).1).1, .int .i64 ((branchP a yes).1).2], .bool (branchP a yes).2]) ∧ Below w.heap.size w w' := by
  cases yes
  · exact branch_no a.1 a.2 w
  · exact branch_yes a.1 a.2 w
end Go.Proofs.YthiacdbjlkpfgaaGreatDoor
namespace Go.Proofs.YthiacdbjlkpfgaaGreatDoor
open Go.RowKit
/-- the signs of opposites -/
def oppS (x : BitVec 3) : BitVec 3 := (x &&& 2) ||| (if bt x 2 then 1 else 0) ||| (if bt x 0 then 5 else 0)
theorem and4 (a : Int) : bits .and .i64 a 4 = if bt (low a) 2 then 4 else 0 := by
  rw [and_up _ _ (by omega) (by omega)]
  generalize low a = x
  revert x; decide
theorem and1 (a : Int) : bits .and .i64 a 1 = if bt (low a) 0 then 1 else 0 := by
  rw [and_up _ _ (by omega) (by omega)]
  generalize low a = x
  revert x; decide
theorem and2 (a : Int) : bits .and .i64 a 2 = up (low a &&& 2) := by rw [and_up _ _ (by omega) (by omega)]; rfl
theorem or_c (x : BitVec 3) (c : Int) (h0 : 0 ≤ c) (h1 : c < 8) : bits .or .i64 (up x) c = up (x ||| low c) := by
  have h : c = up (low c) := up_low c h0 h1
  rw [h, or_up, low_up]
theorem sopp_any (a : Int) (w : World) : Calls Tryz.prog 55 #[.int .i64 a] w fun e w' => e = .returned (.int .i64 (up (oppS (low a)))) ∧ w' = w := by
  have h4 := and4 a
  have h1 := and1 a
  have h2 := and2 a
  by_cases x4 : bt (low a) 2 = true
  · rw [if_pos x4] at h4
    by_cases x1 : bt (low a) 0 = true
    · rw [if_pos x1] at h1
      go_enter Tryz.func55, Tryz.ntmps55
      go_wp2
      go_ret
      exact ⟨ret_int (by rw [or_c _ 1 (by omega) (by omega), or_c _ 5 (by omega) (by omega)]; simp [oppS, x4, x1, show low 1 = (1 : BitVec 3) from rfl, show low 5 = (5 : BitVec 3) from rfl]), rfl⟩
    · rw [if_neg x1] at h1
      go_enter Tryz.func55, Tryz.ntmps55
      go_wp2
      go_ret
      exact ⟨ret_int (by rw [or_c _ 1 (by omega) (by omega)]; simp [oppS, x4, x1, show low 1 = (1 : BitVec 3) from rfl]), rfl⟩
  · rw [if_neg x4] at h4
    by_cases x1 : bt (low a) 0 = true
    · rw [if_pos x1] at h1
      go_enter Tryz.func55, Tryz.ntmps55
      go_wp2
      go_ret
      exact ⟨ret_int (by rw [or_c _ 5 (by omega) (by omega)]; simp [oppS, x4, x1, show low 5 = (5 : BitVec 3) from rfl]), rfl⟩
    · rw [if_neg x1] at h1
      go_enter Tryz.func55, Tryz.ntmps55
      go_wp2
      go_ret
      exact ⟨ret_int (by simp [oppS, x4, x1]), rfl⟩
def oneS (op : Int) (x : BitVec 3) : BitVec 3 := if op = 2 then x else if op = 3 then oppS x else 0
theorem sone_any (op a : Int) (w : World) : Calls Tryz.prog 18 #[.int .i64 op, .int .i64 a] w fun e w' => e = .returned (.int .i64 (up (oneS op (low a)))) ∧ w' = w := by
  by_cases h2 : op = 2
  · subst h2
    go_enter Tryz.func18, Tryz.ntmps18
    go_wp2
    go_ret
    exact ⟨ret_int (by rw [and_up _ _ (by omega) (by omega), show low 7 = 7#3 from rfl, and7]; rfl), rfl⟩
  by_cases h3 : op = 3
  · subst h3
    go_enter Tryz.func18, Tryz.ntmps18
    go_wp2_with (go_at_call 55; refine (sopp_any _ _).mono ?_; rintro e w' ⟨rfl, rfl⟩)
    go_ret
    exact ⟨rfl, rfl⟩
  go_enter Tryz.func18, Tryz.ntmps18
  go_wp2
  go_ret
  exact ⟨ret_int (by simp [oneS, *]; rfl), rfl⟩
def branchS (x : BitVec 3) (yes : Bool) : BitVec 3 := if yes then x &&& 5 else x &&& 2
theorem sbranch_any (a : Int) (yes : Bool) (w : World) : Calls Tryz.prog 45 #[.int .i64 a, .bool yes] w fun e w' => e = .returned (.int .i64 (up (branchS (low a) yes))) ∧ w' = w := by
  cases yes <;>
  · go_enter Tryz.func45, Tryz.ntmps45
    go_wp2
    go_ret
    exact ⟨ret_int (by rw [and_up _ _ (by omega) (by omega)]; rfl), rfl⟩
end Go.Proofs.YthiacdbjlkpfgaaGreatDoor
namespace Go.Proofs.YthiacdbjlkpfgaaGreatDoor
open Go.RowKit
def branchQ (x : BitVec 3) (yes : Bool) : BitVec 3 := if yes then x &&& 3 else x &&& 1
theorem pbranch_any (a : Int) (yes : Bool) (w : World) : Calls Tryz.prog 46 #[.int .i64 a, .bool yes] w fun e w' => e = .returned (.int .i64 (up (branchQ (low a) yes))) ∧ w' = w := by
  cases yes <;>
  · go_enter Tryz.func46, Tryz.ntmps46
    go_wp2
    go_ret
    exact ⟨ret_int (by rw [and_up _ _ (by omega) (by omega)]; rfl), rfl⟩
def oneQ (op : Int) (x : BitVec 3) : BitVec 3 := if op = 2 ∨ op = 3 then x &&& 3 else 0
theorem pone_any (op a : Int) (w : World) : Calls Tryz.prog 19 #[.int .i64 op, .int .i64 a] w fun e w' => e = .returned (.int .i64 (up (oneQ op (low a)))) ∧ w' = w := by
  by_cases h2 : op = 2
  · subst h2; go_enter Tryz.func19, Tryz.ntmps19; go_wp2; go_ret; exact ⟨ret_int (by rw [and3]; rfl), rfl⟩
  by_cases h3 : op = 3
  · subst h3; go_enter Tryz.func19, Tryz.ntmps19; go_wp2; go_ret; exact ⟨ret_int (by rw [and3]; rfl), rfl⟩
  have b2 : (op == 2) = false := by simp [h2]
  have b3 : (op == 3) = false := by simp [h3]
  go_enter Tryz.func19, Tryz.ntmps19; go_wp2; go_ret; exact ⟨ret_int (by simp [oneQ, h2, h3]; rfl), rfl⟩
end Go.Proofs.YthiacdbjlkpfgaaGreatDoor
