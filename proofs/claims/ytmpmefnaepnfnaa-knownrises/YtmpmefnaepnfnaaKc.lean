import Derived.Test.YtmpmefnaepnfnaaKb
import Derived.Deep.RegionHeld3
import Derived.RegionTactic
namespace Go.Proofs.Ytmpmefnaepnfnaa
open Go.RowKit
theorem bcell {W w1 : World} (hb : Below W.heap.size W w1) : (∀ b o, b < W.heap.size → w1.cell? ⟨b, o, none⟩ = W.cell? ⟨b, o, none⟩) ∧ (∀ b o, b < W.heap.size → w1.frozen? ⟨b, o, none⟩ = W.frozen? ⟨b, o, none⟩) :=
  ⟨fun b o h => hb.cell (p := ⟨b, o, none⟩) h, fun b o h => hb.frozen (p := ⟨b, o, none⟩) h⟩

set_option maxHeartbeats 2000000 in
theorem meet_any (ai : Bool) (an : Int) (bi : Bool) (bn : Int) (w : World) : Calls Try.prog 7 #[.agg #[.bool ai, .int .i64 an], .agg #[.bool bi, .int .i64 bn]] w fun e w' => e = .returned (.tuple #[.agg #[.bool (meetI ai an bi bn), .int .i64 (meetN ai an bi bn)], .bool (meetOk ai an bi bn)]) ∧ Below w.heap.size w w' := by
  have hA : ∀ x y, hasK false x y = true := fun _ _ => rfl
  have hB : ∀ x, hasK true x x = true := fun x => by simp [hasK]
  have hC : ¬ an = bn → hasK true bn an = false := fun h => by simp [hasK]; exact fun e => h e.symm
  cases ai <;> cases bi <;> by_cases h : an = bn <;> (try subst h) <;>
  · go_enter Try.func7, Try.ntmps7
    go_wp2_with (first | (go_at_call 29; refine (rt_any _ _ _).mono ?_; rintro e w' ⟨rfl, hb⟩; obtain ⟨hc, hf⟩ := bcell hb; have hz := hb.size; simp at hz) | (go_at_call 15; refine (has_any _ _ _ _).mono ?_; rintro e w' ⟨rfl, o, rfl⟩) | (go_at_call 14; refine (any_any _).mono ?_; rintro e w' ⟨rfl, o, rfl⟩))
    all_goals (exact bodyPost_ret (by simp [results, Try.results7, go_sem, *]; try rfl) rfl ⟨by simp [meetI, meetN, meetOk, cleanN, *], (by repeat (first | exact Below.refl _ _ | (refine Below.drew ?_) | (refine Below.setCell ?_ (by first | omega | (simp; done) | (simp; omega)) _) | (refine Below.alloc ?_ (by first | omega | (simp; done) | (simp; omega)) _) | (refine Below.trans ?_ (Below.mono (by assumption) (by first | omega | (simp; done) | (simp; omega))))))⟩)

set_option maxHeartbeats 2000000 in
theorem meetr_any (ai : Bool) (an : Int) (bi : Bool) (bn : Int) (w : World) : Calls Try.prog 9 #[.agg #[.bool ai, .int .i64 an], .agg #[.bool bi, .int .i64 bn]] w fun e w' => e = .returned (.tuple #[.agg #[.bool (meetI ai an bi bn), .int .i64 (meetN ai an bi bn)], .bool (meetOk ai an bi bn)]) ∧ Below w.heap.size w w' := by
  cases ai <;> cases bi <;> by_cases h : an = bn <;> (try subst h) <;>
  · go_enter Try.func9, Try.ntmps9
    go_wp2_with (first | (go_at_call 30; refine (clean_any _ _ _).mono ?_; rintro e w' ⟨rfl, hb⟩; obtain ⟨hc, hf⟩ := bcell hb; have hz := hb.size; simp at hz))
    all_goals (exact bodyPost_ret (by simp [results, Try.results9, go_sem, *]; try rfl) rfl ⟨by simp [meetI, meetN, meetOk, cleanN, *], (by repeat (first | exact Below.refl _ _ | (refine Below.drew ?_) | (refine Below.setCell ?_ (by first | omega | (simp; done) | (simp; omega)) _) | (refine Below.alloc ?_ (by first | omega | (simp; done) | (simp; omega)) _) | (refine Below.trans ?_ (Below.mono (by assumption) (by first | omega | (simp; done) | (simp; omega))))))⟩)

set_option maxHeartbeats 2000000 in
theorem join_any (ai : Bool) (an : Int) (bi : Bool) (bn : Int) (w : World) : Calls Try.prog 17 #[.agg #[.bool ai, .int .i64 an], .agg #[.bool bi, .int .i64 bn]] w fun e w' => e = .returned (.agg #[.bool (joinI ai an bi bn), .int .i64 (joinN ai an bi bn)]) ∧ Below w.heap.size w w' := by
  cases ai <;> cases bi <;> by_cases h : an = bn <;> (try subst h) <;>
  · go_enter Try.func17, Try.ntmps17
    go_wp2_with (first | (go_at_call 14; refine (any_any _).mono ?_; rintro e w' ⟨rfl, o, rfl⟩))
    all_goals (exact bodyPost_ret (by simp [results, Try.results17, go_sem, *]; try rfl) rfl ⟨by simp [joinI, joinN, *], (by repeat (first | exact Below.refl _ _ | (refine Below.drew ?_) | (refine Below.setCell ?_ (by first | omega | (simp; done) | (simp; omega)) _) | (refine Below.alloc ?_ (by first | omega | (simp; done) | (simp; omega)) _) | (refine Below.trans ?_ (Below.mono (by assumption) (by first | omega | (simp; done) | (simp; omega))))))⟩)

set_option maxHeartbeats 2000000 in
theorem joinr_any (ai : Bool) (an : Int) (bi : Bool) (bn : Int) (w : World) : Calls Try.prog 18 #[.agg #[.bool ai, .int .i64 an], .agg #[.bool bi, .int .i64 bn]] w fun e w' => e = .returned (.agg #[.bool (joinI ai an bi bn), .int .i64 (joinN ai an bi bn)]) ∧ Below w.heap.size w w' := by
  cases ai <;> cases bi <;> by_cases h : an = bn <;> (try subst h) <;>
  · go_enter Try.func18, Try.ntmps18
    go_wp2
    all_goals (exact bodyPost_ret (by simp [results, Try.results18, go_sem, *]; try rfl) rfl ⟨by simp [joinI, joinN, *], (by repeat (first | exact Below.refl _ _ | (refine Below.drew ?_) | (refine Below.setCell ?_ (by first | omega | (simp; done) | (simp; omega)) _) | (refine Below.alloc ?_ (by first | omega | (simp; done) | (simp; omega)) _) | (refine Below.trans ?_ (Below.mono (by assumption) (by first | omega | (simp; done) | (simp; omega))))))⟩)

set_option maxHeartbeats 2000000 in
theorem within_any (ai : Bool) (an : Int) (bi : Bool) (bn : Int) (w : World) : Calls Try.prog 19 #[.agg #[.bool ai, .int .i64 an], .agg #[.bool bi, .int .i64 bn]] w fun e w' => e = .returned (.bool (withinK ai an bi bn)) ∧ Below w.heap.size w w' := by
  cases ai <;> cases bi <;> by_cases h : an = bn <;> (try subst h) <;>
  · go_enter Try.func19, Try.ntmps19
    go_wp2
    all_goals (go_ret; exact ⟨by simp [withinK, *], (by repeat (first | exact Below.refl _ _ | (refine Below.drew ?_) | (refine Below.setCell ?_ (by first | omega | (simp; done) | (simp; omega)) _) | (refine Below.alloc ?_ (by first | omega | (simp; done) | (simp; omega)) _) | (refine Below.trans ?_ (Below.mono (by assumption) (by first | omega | (simp; done) | (simp; omega))))))⟩)

set_option maxHeartbeats 2000000 in
theorem withinr_any (ai : Bool) (an : Int) (bi : Bool) (bn : Int) (w : World) : Calls Try.prog 20 #[.agg #[.bool ai, .int .i64 an], .agg #[.bool bi, .int .i64 bn]] w fun e w' => e = .returned (.bool (withinK ai an bi bn)) ∧ Below w.heap.size w w' := by
  cases ai <;> cases bi <;> by_cases h : an = bn <;> (try subst h) <;>
  · go_enter Try.func20, Try.ntmps20
    go_wp2
    all_goals (go_ret; exact ⟨by simp [withinK, *], (by repeat (first | exact Below.refl _ _ | (refine Below.drew ?_) | (refine Below.setCell ?_ (by first | omega | (simp; done) | (simp; omega)) _) | (refine Below.alloc ?_ (by first | omega | (simp; done) | (simp; omega)) _) | (refine Below.trans ?_ (Below.mono (by assumption) (by first | omega | (simp; done) | (simp; omega))))))⟩)

set_option maxHeartbeats 2000000 in
theorem one_any (op : Int) (ai : Bool) (an : Int) (w : World) : Calls Try.prog 21 #[.int .i64 op, .agg #[.bool ai, .int .i64 an]] w fun e w' => e = .returned (.tuple #[.agg #[.bool (oneI op ai), .int .i64 (oneN op ai an)], .bool (oneOk op)]) ∧ Below w.heap.size w w' := by
  by_cases q2 : op = 2
  · subst q2
    cases ai <;>
    · go_enter Try.func21, Try.ntmps21
      go_wp2_with (first | (go_at_call 29; refine (rt_any _ _ _).mono ?_; rintro e w' ⟨rfl, hb⟩; obtain ⟨hc, hf⟩ := bcell hb; have hz := hb.size; simp at hz) | (go_at_call 13; refine (of_any _ _).mono ?_; rintro e w' ⟨rfl, o, rfl⟩) | (go_at_call 14; refine (any_any _).mono ?_; rintro e w' ⟨rfl, o, rfl⟩))
      all_goals (exact bodyPost_ret (by simp [results, Try.results21, go_sem, *]; try rfl) rfl ⟨by simp [oneI, oneN, oneOk, cleanN, *], (by repeat (first | exact Below.refl _ _ | (refine Below.drew ?_) | (refine Below.setCell ?_ (by first | omega | (simp; done) | (simp; omega)) _) | (refine Below.alloc ?_ (by first | omega | (simp; done) | (simp; omega)) _) | (refine Below.trans ?_ (Below.mono (by assumption) (by first | omega | (simp; done) | (simp; omega))))))⟩)
  by_cases q3 : op = 3
  · subst q3
    cases ai <;>
    · go_enter Try.func21, Try.ntmps21
      go_wp2_with (first | (go_at_call 29; refine (rt_any _ _ _).mono ?_; rintro e w' ⟨rfl, hb⟩; obtain ⟨hc, hf⟩ := bcell hb; have hz := hb.size; simp at hz) | (go_at_call 13; refine (of_any _ _).mono ?_; rintro e w' ⟨rfl, o, rfl⟩) | (go_at_call 14; refine (any_any _).mono ?_; rintro e w' ⟨rfl, o, rfl⟩))
      all_goals (exact bodyPost_ret (by simp [results, Try.results21, go_sem, *]; try rfl) rfl ⟨by simp [oneI, oneN, oneOk, cleanN, *], (by repeat (first | exact Below.refl _ _ | (refine Below.drew ?_) | (refine Below.setCell ?_ (by first | omega | (simp; done) | (simp; omega)) _) | (refine Below.alloc ?_ (by first | omega | (simp; done) | (simp; omega)) _) | (refine Below.trans ?_ (Below.mono (by assumption) (by first | omega | (simp; done) | (simp; omega))))))⟩)
  have b2 : (op != 2) = true := by simp [q2]
  have b3 : (op != 3) = true := by simp [q3]
  have c2 : (op == 2) = false := by simp [q2]
  have c3 : (op == 3) = false := by simp [q3]
  cases ai <;>
  · go_enter Try.func21, Try.ntmps21
    go_wp2_with (first | (go_at_call 29; refine (rt_any _ _ _).mono ?_; rintro e w' ⟨rfl, hb⟩; obtain ⟨hc, hf⟩ := bcell hb; have hz := hb.size; simp at hz) | (go_at_call 13; refine (of_any _ _).mono ?_; rintro e w' ⟨rfl, o, rfl⟩) | (go_at_call 14; refine (any_any _).mono ?_; rintro e w' ⟨rfl, o, rfl⟩))
    all_goals (exact bodyPost_ret (by simp [results, Try.results21, go_sem, *]; try rfl) rfl ⟨by simp [oneI, oneN, oneOk, *], (by repeat (first | exact Below.refl _ _ | (refine Below.drew ?_) | (refine Below.setCell ?_ (by first | omega | (simp; done) | (simp; omega)) _) | (refine Below.alloc ?_ (by first | omega | (simp; done) | (simp; omega)) _) | (refine Below.trans ?_ (Below.mono (by assumption) (by first | omega | (simp; done) | (simp; omega))))))⟩)

set_option maxHeartbeats 2000000 in
theorem oner_any (op : Int) (ai : Bool) (an : Int) (w : World) : Calls Try.prog 22 #[.int .i64 op, .agg #[.bool ai, .int .i64 an]] w fun e w' => e = .returned (.tuple #[.agg #[.bool (oneI op ai), .int .i64 (oneN op ai an)], .bool (oneOk op)]) ∧ Below w.heap.size w w' := by
  by_cases q2 : op = 2
  · subst q2
    cases ai <;>
    · go_enter Try.func22, Try.ntmps22
      go_wp2_with (first | (go_at_call 30; refine (clean_any _ _ _).mono ?_; rintro e w' ⟨rfl, hb⟩; obtain ⟨hc, hf⟩ := bcell hb; have hz := hb.size; simp at hz))
      all_goals (exact bodyPost_ret (by simp [results, Try.results22, go_sem, *]; try rfl) rfl ⟨by simp [oneI, oneN, oneOk, cleanN, *], (by repeat (first | exact Below.refl _ _ | (refine Below.drew ?_) | (refine Below.setCell ?_ (by first | omega | (simp; done) | (simp; omega)) _) | (refine Below.alloc ?_ (by first | omega | (simp; done) | (simp; omega)) _) | (refine Below.trans ?_ (Below.mono (by assumption) (by first | omega | (simp; done) | (simp; omega))))))⟩)
  by_cases q3 : op = 3
  · subst q3
    cases ai <;>
    · go_enter Try.func22, Try.ntmps22
      go_wp2_with (first | (go_at_call 30; refine (clean_any _ _ _).mono ?_; rintro e w' ⟨rfl, hb⟩; obtain ⟨hc, hf⟩ := bcell hb; have hz := hb.size; simp at hz))
      all_goals (exact bodyPost_ret (by simp [results, Try.results22, go_sem, *]; try rfl) rfl ⟨by simp [oneI, oneN, oneOk, *], (by repeat (first | exact Below.refl _ _ | (refine Below.drew ?_) | (refine Below.setCell ?_ (by first | omega | (simp; done) | (simp; omega)) _) | (refine Below.alloc ?_ (by first | omega | (simp; done) | (simp; omega)) _) | (refine Below.trans ?_ (Below.mono (by assumption) (by first | omega | (simp; done) | (simp; omega))))))⟩)
  have b2 : (op != 2) = true := by simp [q2]
  have b3 : (op != 3) = true := by simp [q3]
  have c2 : (op == 2) = false := by simp [q2]
  have c3 : (op == 3) = false := by simp [q3]
  cases ai <;>
  · go_enter Try.func22, Try.ntmps22
    go_wp2_with (first | (go_at_call 30; refine (clean_any _ _ _).mono ?_; rintro e w' ⟨rfl, hb⟩; obtain ⟨hc, hf⟩ := bcell hb; have hz := hb.size; simp at hz))
    all_goals (exact bodyPost_ret (by simp [results, Try.results22, go_sem, *]; try rfl) rfl ⟨by simp [oneI, oneN, oneOk, *], (by repeat (first | exact Below.refl _ _ | (refine Below.drew ?_) | (refine Below.setCell ?_ (by first | omega | (simp; done) | (simp; omega)) _) | (refine Below.alloc ?_ (by first | omega | (simp; done) | (simp; omega)) _) | (refine Below.trans ?_ (Below.mono (by assumption) (by first | omega | (simp; done) | (simp; omega))))))⟩)

set_option maxHeartbeats 2000000 in
theorem br_any (ai : Bool) (an : Int) (yes : Bool) (w : World) : Calls Try.prog 25 #[.agg #[.bool ai, .int .i64 an], .bool yes] w fun e w' => e = .returned (.tuple #[.agg #[.bool (brI ai an yes), .int .i64 (brN ai an yes)], .bool (brOk ai an yes)]) ∧ Below w.heap.size w w' := by
  cases yes
  · have e1 : meetI ai an true 0 = brI ai an false := by cases ai <;> by_cases h : an = 0 <;> simp [meetI, brI, h, bne]
    have e2 : meetN ai an true 0 = brN ai an false := by cases ai <;> by_cases h : an = 0 <;> simp [meetN, brN, h]
    have e3 : meetOk ai an true 0 = brOk ai an false := by cases ai <;> by_cases h : an = 0 <;> simp [meetOk, brOk, h]
    go_enter Try.func25, Try.ntmps25
    go_wp2
    go_region_with (first | (go_at_call 7; refine (meet_any _ _ _ _ _).mono ?_; rintro e w' ⟨rfl, hb⟩; obtain ⟨hc, hf⟩ := bcell hb; have hz := hb.size; simp at hz) | (go_at_call 13; refine (of_any _ _).mono ?_; rintro e w' ⟨rfl, o, rfl⟩))
    all_goals (go_wp2; exact bodyPost_ret (by simp [results, Try.results25, go_sem, *]; try rfl) rfl ⟨rfl, (by repeat (first | exact Below.refl _ _ | (refine Below.drew ?_) | (refine Below.setCell ?_ (by first | omega | (simp; done) | (simp; omega)) _) | (refine Below.alloc ?_ (by first | omega | (simp; done) | (simp; omega)) _) | (refine Below.trans ?_ (Below.mono (by assumption) (by first | omega | (simp; done) | (simp; omega))))))⟩)
  · cases ai <;> by_cases h : an = 0 <;> (try subst h) <;>
    · go_enter Try.func25, Try.ntmps25
      go_wp2_with (first | (go_at_call 29; refine (rt_any _ _ _).mono ?_; rintro e w' ⟨rfl, hb⟩; obtain ⟨hc, hf⟩ := bcell hb; have hz := hb.size; simp at hz) | (go_at_call 14; refine (any_any _).mono ?_; rintro e w' ⟨rfl, o, rfl⟩) | (go_at_call 31; refine (is_any _ _ _ _).mono ?_; rintro e w' ⟨rfl, o, rfl⟩))
      all_goals (exact bodyPost_ret (by simp [results, Try.results25, go_sem, *]; try rfl) rfl ⟨by simp [brI, brN, brOk, cleanN, *], (by repeat (first | exact Below.refl _ _ | (refine Below.drew ?_) | (refine Below.setCell ?_ (by first | omega | (simp; done) | (simp; omega)) _) | (refine Below.alloc ?_ (by first | omega | (simp; done) | (simp; omega)) _) | (refine Below.trans ?_ (Below.mono (by assumption) (by first | omega | (simp; done) | (simp; omega))))))⟩)

set_option maxHeartbeats 2000000 in
theorem brr_any (ai : Bool) (an : Int) (yes : Bool) (w : World) : Calls Try.prog 26 #[.agg #[.bool ai, .int .i64 an], .bool yes] w fun e w' => e = .returned (.tuple #[.agg #[.bool (brI ai an yes), .int .i64 (brN ai an yes)], .bool (brOk ai an yes)]) ∧ Below w.heap.size w w' := by
  cases yes <;> cases ai <;> by_cases h : an = 0 <;> (try subst h) <;>
  · go_enter Try.func26, Try.ntmps26
    go_wp2_with (first | (go_at_call 30; refine (clean_any _ _ _).mono ?_; rintro e w' ⟨rfl, hb⟩; obtain ⟨hc, hf⟩ := bcell hb; have hz := hb.size; simp at hz))
    all_goals (exact bodyPost_ret (by simp [results, Try.results26, go_sem, *]; try rfl) rfl ⟨by simp [brI, brN, brOk, cleanN, *], (by repeat (first | exact Below.refl _ _ | (refine Below.drew ?_) | (refine Below.setCell ?_ (by first | omega | (simp; done) | (simp; omega)) _) | (refine Below.alloc ?_ (by first | omega | (simp; done) | (simp; omega)) _) | (refine Below.trans ?_ (Below.mono (by assumption) (by first | omega | (simp; done) | (simp; omega))))))⟩)

end Go.Proofs.Ytmpmefnaepnfnaa
