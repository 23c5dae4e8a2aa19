import Derived.Test.YtmpmefnaepnfnaaAr
namespace Go.Proofs.Ytmpmefnaepnfnaa
open Go.RowKit

/-- what both may be -/
def meetOk (ai : Bool) (an : Int) (bi : Bool) (bn : Int) : Bool := !(ai && bi && (an != bn))
def meetI (ai : Bool) (an : Int) (bi : Bool) (bn : Int) : Bool := (ai && (!bi || (an == bn))) || (!ai && bi)
def meetN (ai : Bool) (an : Int) (bi : Bool) (bn : Int) : Int := if ai = true then (if bi = true ∧ an ≠ bn then 0 else an) else if bi = true then bn else 0
def joinI (ai : Bool) (an : Int) (bi : Bool) (bn : Int) : Bool := ai && bi && (an == bn)
def joinN (ai : Bool) (an : Int) (bi : Bool) (bn : Int) : Int := if ai = true ∧ bi = true ∧ an = bn then an else 0
def withinK (ai : Bool) (an : Int) (bi : Bool) (bn : Int) : Bool := !bi || (ai && (an == bn))
def hasK (ai : Bool) (an n : Int) : Bool := !ai || (an == n)
def cleanN (ai : Bool) (an : Int) : Int := if ai = true then an else 0
def rightK (ai : Bool) (an : Int) : Bool := ai || (an == 0)
def oneOk (op : Int) : Bool := (op == 2) || (op == 3)
def oneI (op : Int) (ai : Bool) : Bool := oneOk op && ai
def oneN (op : Int) (ai : Bool) (an : Int) : Int := if ai = true then (if op = 2 then an else if op = 3 then wrap64 (-an) else 0) else 0
def twoOk (op : Int) (bi : Bool) (bn : Int) : Bool := decide (4 ≤ op) && decide (op ≤ 12) && !(((op == 7) || (op == 8)) && bi && (bn == 0))
def twoI (op : Int) (ai bi : Bool) (bn : Int) : Bool := twoOk op bi bn && ai && bi
def twoN (op : Int) (ai : Bool) (an : Int) (bi : Bool) (bn : Int) : Int := if twoI op ai bi bn = true then (arith op an bn).1 else 0
def brOk (ai : Bool) (an : Int) (yes : Bool) : Bool := if yes = true then !(ai && (an == 0)) else !(ai && (an != 0))
def brI (ai : Bool) (an : Int) (yes : Bool) : Bool := if yes = true then ai && (an != 0) else !(ai && (an != 0))
def brN (ai : Bool) (an : Int) (yes : Bool) : Int := if yes = true then (if ai = true then an else 0) else 0
/-- new blocks alone -/
def New1 (w w' : World) : Prop := ∃ o, w' = w.alloc o
def New2 (w w' : World) : Prop := ∃ o p, w' = (w.alloc o).alloc p

theorem of_any (n : Int) (w : World) : Calls Try.prog 13 #[.int .i64 n] w fun e w' => e = .returned (.agg #[.bool true, .int .i64 n]) ∧ New1 w w' := by
  go_enter Try.func13, Try.ntmps13
  go_wp2
  exact bodyPost_ret (by simp [results, Try.results13, go_sem]; try rfl) rfl ⟨rfl, _, rfl⟩
theorem any_any (w : World) : Calls Try.prog 14 #[] w fun e w' => e = .returned (.agg #[.bool false, .int .i64 0]) ∧ New1 w w' := by
  go_enter Try.func14, Try.ntmps14
  go_wp2
  exact bodyPost_ret (by simp [results, Try.results14, go_sem]; try rfl) rfl ⟨rfl, _, rfl⟩
theorem right_any (ai : Bool) (an : Int) (w : World) : Calls Try.prog 12 #[.agg #[.bool ai, .int .i64 an]] w fun e w' => e = .returned (.bool (rightK ai an)) ∧ New1 w w' := by
  cases ai <;> by_cases h : an = 0 <;> (try subst h) <;>
  · go_enter Try.func12, Try.ntmps12
    go_wp2
    go_ret
    exact ⟨by simp [rightK, *], _, rfl⟩
theorem has_any (ai : Bool) (an n : Int) (w : World) : Calls Try.prog 15 #[.agg #[.bool ai, .int .i64 an], .int .i64 n] w fun e w' => e = .returned (.bool (hasK ai an n)) ∧ New1 w w' := by
  cases ai <;> by_cases h : an = n <;> (try subst h) <;>
  · go_enter Try.func15, Try.ntmps15
    go_wp2
    go_ret
    exact ⟨by simp [hasK, *], _, rfl⟩
theorem hasr_any (ai : Bool) (an n : Int) (w : World) : Calls Try.prog 16 #[.agg #[.bool ai, .int .i64 an], .int .i64 n] w fun e w' => e = .returned (.bool (hasK ai an n)) ∧ New1 w w' := by
  cases ai <;> by_cases h : an = n <;> (try subst h) <;>
  · go_enter Try.func16, Try.ntmps16
    go_wp2
    go_ret
    exact ⟨by simp [hasK, *], _, rfl⟩
theorem to_any (ai : Bool) (an : Int) (w : World) : Calls Try.prog 8 #[.agg #[.bool ai, .int .i64 an]] w fun e w' => e = .returned (.agg #[.bool ai, .int .i64 an]) ∧ New2 w w' := by
  go_enter Try.func8, Try.ntmps8
  go_wp2
  exact bodyPost_ret (by simp [results, Try.results8, go_sem]; try rfl) rfl ⟨rfl, _, _, rfl⟩
theorem from_any (ai : Bool) (an : Int) (w : World) : Calls Try.prog 11 #[.agg #[.bool ai, .int .i64 an]] w fun e w' => e = .returned (.agg #[.bool ai, .int .i64 an]) ∧ New2 w w' := by
  go_enter Try.func11, Try.ntmps11
  go_wp2
  exact bodyPost_ret (by simp [results, Try.results11, go_sem]; try rfl) rfl ⟨rfl, _, _, rfl⟩
theorem is_any (ai : Bool) (an n : Int) (w : World) : Calls Try.prog 31 #[.agg #[.bool ai, .int .i64 an], .int .i64 n] w fun e w' => e = .returned (.bool (ai && (an == n))) ∧ New1 w w' := by
  cases ai <;> by_cases h : an = n <;> (try subst h) <;>
  · go_enter Try.func31, Try.ntmps31
    go_wp2
    go_ret
    exact ⟨by simp [*], _, rfl⟩
theorem rt_any (ai : Bool) (an : Int) (w : World) : Calls Try.prog 29 #[.agg #[.bool ai, .int .i64 an]] w fun e w' => e = .returned (.agg #[.bool ai, .int .i64 (cleanN ai an)]) ∧ Below w.heap.size w w' := by
  cases ai <;>
  · go_enter Try.func29, Try.ntmps29
    go_wp2_with (go_at_call 14; refine (any_any _).mono ?_; rintro e w' ⟨rfl, o, rfl⟩)
    exact bodyPost_ret (by simp [results, Try.results29, go_sem]; try rfl) rfl ⟨by simp [cleanN], (by repeat (first | exact Below.refl _ _ | (refine Below.alloc ?_ (by simp; try omega) _) | (refine Below.setCell ?_ (by simp; try omega) _)))⟩
theorem clean_any (ai : Bool) (an : Int) (w : World) : Calls Try.prog 30 #[.agg #[.bool ai, .int .i64 an]] w fun e w' => e = .returned (.agg #[.bool ai, .int .i64 (cleanN ai an)]) ∧ Below w.heap.size w w' := by
  cases ai <;>
  · go_enter Try.func30, Try.ntmps30
    go_wp2
    exact bodyPost_ret (by simp [results, Try.results30, go_sem]; try rfl) rfl ⟨by simp [cleanN], (by repeat (first | exact Below.refl _ _ | (refine Below.alloc ?_ (by simp; try omega) _) | (refine Below.setCell ?_ (by simp; try omega) _)))⟩
end Go.Proofs.Ytmpmefnaepnfnaa
