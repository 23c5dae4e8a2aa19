import Derived.Test.YtmpmefnaepnfnaaKb
namespace Go.Proofs.Ytmpmefnaepnfnaa
open Go.RowKit
set_option maxHeartbeats 4000000 in
theorem twor_any (op : Int) (ai : Bool) (an : Int) (bi : Bool) (bn : Int) (w : World) (ha : i64 an) (hb : i64 bn) : Calls Try.prog 24 #[.int .i64 op, .agg #[.bool ai, .int .i64 an], .agg #[.bool bi, .int .i64 bn]] w fun e w' => e = .returned (.tuple #[.agg #[.bool (twoI op ai bi bn), .int .i64 (twoN op ai an bi bn)], .bool (twoOk op bi bn)]) ∧ Below w.heap.size w w' := by
  by_cases h4 : op < 4
  · have tk : twoOk op bi bn = false := by simp [twoOk, show ¬ 4 ≤ op by omega]
    · go_enter Try.func24, Try.ntmps24
      go_wp2_with (first | (go_at_call 28; refine (arith_ref _ _ _ _ ha hb).mono ?_; rintro e w' ⟨rfl, h⟩; obtain rfl := h.symm))
      all_goals (exact bodyPost_ret (by simp [results, Try.results24, go_sem, *]; try rfl) rfl ⟨by simp [twoI, twoN, *], (by repeat (first | exact Below.refl _ _ | (refine Below.drew ?_) | (refine Below.setCell ?_ (by first | omega | (simp; done) | (simp; omega)) _) | (refine Below.alloc ?_ (by first | omega | (simp; done) | (simp; omega)) _) | (refine Below.trans ?_ (Below.mono (by assumption) (by first | omega | (simp; done) | (simp; omega))))))⟩)
  by_cases h12 : 12 < op
  · have tk : twoOk op bi bn = false := by simp [twoOk, show ¬ op ≤ 12 by omega]
    · go_enter Try.func24, Try.ntmps24
      go_wp2_with (first | (go_at_call 28; refine (arith_ref _ _ _ _ ha hb).mono ?_; rintro e w' ⟨rfl, h⟩; obtain rfl := h.symm))
      all_goals (exact bodyPost_ret (by simp [results, Try.results24, go_sem, *]; try rfl) rfl ⟨by simp [twoI, twoN, *], (by repeat (first | exact Below.refl _ _ | (refine Below.drew ?_) | (refine Below.setCell ?_ (by first | omega | (simp; done) | (simp; omega)) _) | (refine Below.alloc ?_ (by first | omega | (simp; done) | (simp; omega)) _) | (refine Below.trans ?_ (Below.mono (by assumption) (by first | omega | (simp; done) | (simp; omega))))))⟩)
  have g4 : 4 ≤ op := by omega
  have g12 : op ≤ 12 := by omega
  by_cases q7 : op = 7
  · subst q7
    cases ai <;> cases bi <;> by_cases h : bn = 0 <;> (try subst h) <;>
    · go_enter Try.func24, Try.ntmps24
      go_wp2_with (first | (go_at_call 28; refine (arith_ref _ _ _ _ ha hb).mono ?_; rintro e w' ⟨rfl, h⟩; obtain rfl := h.symm))
      all_goals (exact bodyPost_ret (by simp [results, Try.results24, go_sem, *]; try rfl) rfl ⟨by simp [twoI, twoN, twoOk, *], (by repeat (first | exact Below.refl _ _ | (refine Below.drew ?_) | (refine Below.setCell ?_ (by first | omega | (simp; done) | (simp; omega)) _) | (refine Below.alloc ?_ (by first | omega | (simp; done) | (simp; omega)) _) | (refine Below.trans ?_ (Below.mono (by assumption) (by first | omega | (simp; done) | (simp; omega))))))⟩)
  by_cases q8 : op = 8
  · subst q8
    cases ai <;> cases bi <;> by_cases h : bn = 0 <;> (try subst h) <;>
    · go_enter Try.func24, Try.ntmps24
      go_wp2_with (first | (go_at_call 28; refine (arith_ref _ _ _ _ ha hb).mono ?_; rintro e w' ⟨rfl, h⟩; obtain rfl := h.symm))
      all_goals (exact bodyPost_ret (by simp [results, Try.results24, go_sem, *]; try rfl) rfl ⟨by simp [twoI, twoN, twoOk, *], (by repeat (first | exact Below.refl _ _ | (refine Below.drew ?_) | (refine Below.setCell ?_ (by first | omega | (simp; done) | (simp; omega)) _) | (refine Below.alloc ?_ (by first | omega | (simp; done) | (simp; omega)) _) | (refine Below.trans ?_ (Below.mono (by assumption) (by first | omega | (simp; done) | (simp; omega))))))⟩)
  have c7 : (op == 7) = false := by simp [q7]
  have c8 : (op == 8) = false := by simp [q8]
  cases ai <;> cases bi <;>
  · go_enter Try.func24, Try.ntmps24
    go_wp2_with (first | (go_at_call 28; refine (arith_ref _ _ _ _ ha hb).mono ?_; rintro e w' ⟨rfl, h⟩; obtain rfl := h.symm))
    all_goals (exact bodyPost_ret (by simp [results, Try.results24, go_sem, *]; try rfl) rfl ⟨by simp [twoI, twoN, twoOk, *], (by repeat (first | exact Below.refl _ _ | (refine Below.drew ?_) | (refine Below.setCell ?_ (by first | omega | (simp; done) | (simp; omega)) _) | (refine Below.alloc ?_ (by first | omega | (simp; done) | (simp; omega)) _) | (refine Below.trans ?_ (Below.mono (by assumption) (by first | omega | (simp; done) | (simp; omega))))))⟩)
theorem with_any (n : Int) (is : Bool) (w : World) : Calls Try.prog 27 #[.int .i64 n, .bool is] w fun e w' => e = .returned (.agg #[.bool is, .int .i64 (cleanN is n)]) ∧ Below w.heap.size w w' := by
  cases is <;>
  · go_enter Try.func27, Try.ntmps27
    go_wp2_with (first | (go_at_call 14; refine (any_any _).mono ?_; rintro e w' ⟨rfl, o, rfl⟩) | (go_at_call 13; refine (of_any _ _).mono ?_; rintro e w' ⟨rfl, o, rfl⟩))
    exact bodyPost_ret (by simp [results, Try.results27, go_sem]; try rfl) rfl ⟨by simp [cleanN], (by repeat (first | exact Below.refl _ _ | (refine Below.drew ?_) | (refine Below.setCell ?_ (by first | omega | (simp; done) | (simp; omega)) _) | (refine Below.alloc ?_ (by first | omega | (simp; done) | (simp; omega)) _) | (refine Below.trans ?_ (Below.mono (by assumption) (by first | omega | (simp; done) | (simp; omega))))))⟩
end Go.Proofs.Ytmpmefnaepnfnaa
