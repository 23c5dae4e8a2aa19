import Derived.Test.YtfndahdnbkmkkaaFn0
import Derived.Deep.RegionHeld3
import Derived.RegionTactic
namespace Go.Proofs.Ytfndahdnbkmkkaa
open Go.RowKit
/-- what both may be -/
def meetOk (ai : Bool) (an : Int) (bi : Bool) (bn : Int) : Bool := !(ai && bi && (an != bn))
def meetI (ai : Bool) (an : Int) (bi : Bool) (bn : Int) : Bool := (ai && (!bi || (an == bn))) || (!ai && bi)
def meetN (ai : Bool) (an : Int) (bi : Bool) (bn : Int) : Int := if ai = true then (if bi = true ∧ an ≠ bn then 0 else an) else if bi = true then bn else 0
def joinI (ai : Bool) (an : Int) (bi : Bool) (bn : Int) : Bool := ai && bi && (an == bn)
def joinN (ai : Bool) (an : Int) (bi : Bool) (bn : Int) : Int := if ai = true ∧ bi = true ∧ an = bn then an else 0
def withinK (ai : Bool) (an : Int) (bi : Bool) (bn : Int) : Bool := !bi || (ai && (an == bn))
def hasK (ai : Bool) (an n : Int) : Bool := !ai || (an == n)
def cleanN (ai : Bool) (an : Int) : Int := if ai = true then an else 0
def rightK (ai : Bool) (an : Int) : Bool := ai || (an == 0)
theorem kof_any (n : Int) (w : World) : Calls Try.prog 45 #[.int .i64 n] w fun e w' => e = .returned (.agg #[.bool true, .int .i64 n]) ∧ New1 w w' := by
  go_enter Try.func45, Try.ntmps45
  go_wp2
  exact bodyPost_ret (by simp [results, Try.results45, go_sem]; try rfl) rfl ⟨rfl, _, rfl⟩
theorem kany_any (w : World) : Calls Try.prog 50 #[] w fun e w' => e = .returned (.agg #[.bool false, .int .i64 0]) ∧ New1 w w' := by
  go_enter Try.func50, Try.ntmps50
  go_wp2
  exact bodyPost_ret (by simp [results, Try.results50, go_sem]; try rfl) rfl ⟨rfl, _, rfl⟩
theorem kright_any (ai : Bool) (an : Int) (w : World) : Calls Try.prog 27 #[.agg #[.bool ai, .int .i64 an]] w fun e w' => e = .returned (.bool (rightK ai an)) ∧ New1 w w' := by
  cases ai <;> by_cases h : an = 0 <;> (try subst h) <;>
  · go_enter Try.func27, Try.ntmps27
    go_wp2
    go_ret
    exact ⟨by simp [rightK, *], _, rfl⟩
theorem khas_any (ai : Bool) (an n : Int) (w : World) : Calls Try.prog 54 #[.agg #[.bool ai, .int .i64 an], .int .i64 n] w fun e w' => e = .returned (.bool (hasK ai an n)) ∧ New1 w w' := by
  cases ai <;> by_cases h : an = n <;> (try subst h) <;>
  · go_enter Try.func54, Try.ntmps54
    go_wp2
    go_ret
    exact ⟨by simp [hasK, *], _, rfl⟩
theorem khasr_any (ai : Bool) (an n : Int) (w : World) : Calls Try.prog 58 #[.agg #[.bool ai, .int .i64 an], .int .i64 n] w fun e w' => e = .returned (.bool (hasK ai an n)) ∧ New1 w w' := by
  cases ai <;> by_cases h : an = n <;> (try subst h) <;>
  · go_enter Try.func58, Try.ntmps58
    go_wp2
    go_ret
    exact ⟨by simp [hasK, *], _, rfl⟩
theorem kto_any (ai : Bool) (an : Int) (w : World) : Calls Try.prog 30 #[.agg #[.bool ai, .int .i64 an]] w fun e w' => e = .returned (.agg #[.bool ai, .int .i64 an]) ∧ New2 w w' := by
  go_enter Try.func30, Try.ntmps30
  go_wp2
  exact bodyPost_ret (by simp [results, Try.results30, go_sem]; try rfl) rfl ⟨rfl, _, _, rfl⟩
theorem kfrom_any (ai : Bool) (an : Int) (w : World) : Calls Try.prog 42 #[.agg #[.bool ai, .int .i64 an]] w fun e w' => e = .returned (.agg #[.bool ai, .int .i64 an]) ∧ New2 w w' := by
  go_enter Try.func42, Try.ntmps42
  go_wp2
  exact bodyPost_ret (by simp [results, Try.results42, go_sem]; try rfl) rfl ⟨rfl, _, _, rfl⟩
theorem krt_any (ai : Bool) (an : Int) (w : World) : Calls Try.prog 75 #[.agg #[.bool ai, .int .i64 an]] w fun e w' => e = .returned (.agg #[.bool ai, .int .i64 (cleanN ai an)]) ∧ Below w.heap.size w w' := by
  cases ai <;>
  · go_enter Try.func75, Try.ntmps75
    go_wp2_with (go_at_call 50; refine (kany_any _).mono ?_; rintro e w' ⟨rfl, o, rfl⟩)
    exact bodyPost_ret (by simp [results, Try.results75, go_sem]; try rfl) rfl ⟨by simp [cleanN], (by repeat (first | exact Below.refl _ _ | (refine Below.alloc ?_ (by simp; try omega) _) | (refine Below.setCell ?_ (by simp; try omega) _)))⟩
theorem kclean_any (ai : Bool) (an : Int) (w : World) : Calls Try.prog 32 #[.agg #[.bool ai, .int .i64 an]] w fun e w' => e = .returned (.agg #[.bool ai, .int .i64 (cleanN ai an)]) ∧ Below w.heap.size w w' := by
  cases ai <;>
  · go_enter Try.func32, Try.ntmps32
    go_wp2
    exact bodyPost_ret (by simp [results, Try.results32, go_sem]; try rfl) rfl ⟨by simp [cleanN], (by repeat (first | exact Below.refl _ _ | (refine Below.alloc ?_ (by simp; try omega) _) | (refine Below.setCell ?_ (by simp; try omega) _)))⟩
theorem bcell {W w1 : World} (hb : Below W.heap.size W w1) : (∀ b o, b < W.heap.size → w1.cell? ⟨b, o, none⟩ = W.cell? ⟨b, o, none⟩) ∧ (∀ b o, b < W.heap.size → w1.frozen? ⟨b, o, none⟩ = W.frozen? ⟨b, o, none⟩) :=
  ⟨fun b o h => hb.cell (p := ⟨b, o, none⟩) h, fun b o h => hb.frozen (p := ⟨b, o, none⟩) h⟩
set_option maxHeartbeats 2000000 in
theorem kmeet_any (ai : Bool) (an : Int) (bi : Bool) (bn : Int) (w : World) : Calls Try.prog 34 #[.agg #[.bool ai, .int .i64 an], .agg #[.bool bi, .int .i64 bn]] w fun e w' => e = .returned (.tuple #[.agg #[.bool (meetI ai an bi bn), .int .i64 (meetN ai an bi bn)], .bool (meetOk ai an bi bn)]) ∧ Below w.heap.size w w' := by
  have hA : ∀ x y, hasK false x y = true := fun _ _ => rfl
  have hB : ∀ x, hasK true x x = true := fun x => by simp [hasK]
  have hC : ¬ an = bn → hasK true bn an = false := fun h => by simp [hasK]; exact fun e => h e.symm
  cases ai <;> cases bi <;> by_cases h : an = bn <;> (try subst h) <;>
  · go_enter Try.func34, Try.ntmps34
    go_wp2_with (first | (go_at_call 75; refine (krt_any _ _ _).mono ?_; rintro e w' ⟨rfl, hb⟩; obtain ⟨hc, hf⟩ := bcell hb; have hz := hb.size; simp at hz) | (go_at_call 54; refine (khas_any _ _ _ _).mono ?_; rintro e w' ⟨rfl, o, rfl⟩) | (go_at_call 50; refine (kany_any _).mono ?_; rintro e w' ⟨rfl, o, rfl⟩))
    all_goals (exact bodyPost_ret (by simp [results, Try.results34, go_sem, *]; try rfl) rfl ⟨by simp [meetI, meetN, meetOk, cleanN, *], (by repeat (first | exact Below.refl _ _ | (refine Below.drew ?_) | (refine Below.setCell ?_ (by first | omega | (simp; done) | (simp; omega)) _) | (refine Below.alloc ?_ (by first | omega | (simp; done) | (simp; omega)) _) | (refine Below.trans ?_ (Below.mono (by assumption) (by first | omega | (simp; done) | (simp; omega))))))⟩)
set_option maxHeartbeats 2000000 in
theorem kmeetr_any (ai : Bool) (an : Int) (bi : Bool) (bn : Int) (w : World) : Calls Try.prog 39 #[.agg #[.bool ai, .int .i64 an], .agg #[.bool bi, .int .i64 bn]] w fun e w' => e = .returned (.tuple #[.agg #[.bool (meetI ai an bi bn), .int .i64 (meetN ai an bi bn)], .bool (meetOk ai an bi bn)]) ∧ Below w.heap.size w w' := by
  cases ai <;> cases bi <;> by_cases h : an = bn <;> (try subst h) <;>
  · go_enter Try.func39, Try.ntmps39
    go_wp2_with (first | (go_at_call 32; refine (kclean_any _ _ _).mono ?_; rintro e w' ⟨rfl, hb⟩; obtain ⟨hc, hf⟩ := bcell hb; have hz := hb.size; simp at hz))
    all_goals (exact bodyPost_ret (by simp [results, Try.results39, go_sem, *]; try rfl) rfl ⟨by simp [meetI, meetN, meetOk, cleanN, *], (by repeat (first | exact Below.refl _ _ | (refine Below.drew ?_) | (refine Below.setCell ?_ (by first | omega | (simp; done) | (simp; omega)) _) | (refine Below.alloc ?_ (by first | omega | (simp; done) | (simp; omega)) _) | (refine Below.trans ?_ (Below.mono (by assumption) (by first | omega | (simp; done) | (simp; omega))))))⟩)
set_option maxHeartbeats 2000000 in
theorem kjoin_any (ai : Bool) (an : Int) (bi : Bool) (bn : Int) (w : World) : Calls Try.prog 62 #[.agg #[.bool ai, .int .i64 an], .agg #[.bool bi, .int .i64 bn]] w fun e w' => e = .returned (.agg #[.bool (joinI ai an bi bn), .int .i64 (joinN ai an bi bn)]) ∧ Below w.heap.size w w' := by
  cases ai <;> cases bi <;> by_cases h : an = bn <;> (try subst h) <;>
  · go_enter Try.func62, Try.ntmps62
    go_wp2_with (first | (go_at_call 50; refine (kany_any _).mono ?_; rintro e w' ⟨rfl, o, rfl⟩))
    all_goals (exact bodyPost_ret (by simp [results, Try.results62, go_sem, *]; try rfl) rfl ⟨by simp [joinI, joinN, *], (by repeat (first | exact Below.refl _ _ | (refine Below.drew ?_) | (refine Below.setCell ?_ (by first | omega | (simp; done) | (simp; omega)) _) | (refine Below.alloc ?_ (by first | omega | (simp; done) | (simp; omega)) _) | (refine Below.trans ?_ (Below.mono (by assumption) (by first | omega | (simp; done) | (simp; omega))))))⟩)
set_option maxHeartbeats 2000000 in
theorem kjoinr_any (ai : Bool) (an : Int) (bi : Bool) (bn : Int) (w : World) : Calls Try.prog 65 #[.agg #[.bool ai, .int .i64 an], .agg #[.bool bi, .int .i64 bn]] w fun e w' => e = .returned (.agg #[.bool (joinI ai an bi bn), .int .i64 (joinN ai an bi bn)]) ∧ Below w.heap.size w w' := by
  cases ai <;> cases bi <;> by_cases h : an = bn <;> (try subst h) <;>
  · go_enter Try.func65, Try.ntmps65
    go_wp2
    all_goals (exact bodyPost_ret (by simp [results, Try.results65, go_sem, *]; try rfl) rfl ⟨by simp [joinI, joinN, *], (by repeat (first | exact Below.refl _ _ | (refine Below.drew ?_) | (refine Below.setCell ?_ (by first | omega | (simp; done) | (simp; omega)) _) | (refine Below.alloc ?_ (by first | omega | (simp; done) | (simp; omega)) _) | (refine Below.trans ?_ (Below.mono (by assumption) (by first | omega | (simp; done) | (simp; omega))))))⟩)
set_option maxHeartbeats 2000000 in
theorem kwithin_any (ai : Bool) (an : Int) (bi : Bool) (bn : Int) (w : World) : Calls Try.prog 68 #[.agg #[.bool ai, .int .i64 an], .agg #[.bool bi, .int .i64 bn]] w fun e w' => e = .returned (.bool (withinK ai an bi bn)) ∧ Below w.heap.size w w' := by
  cases ai <;> cases bi <;> by_cases h : an = bn <;> (try subst h) <;>
  · go_enter Try.func68, Try.ntmps68
    go_wp2
    all_goals (go_ret; exact ⟨by simp [withinK, *], (by repeat (first | exact Below.refl _ _ | (refine Below.drew ?_) | (refine Below.setCell ?_ (by first | omega | (simp; done) | (simp; omega)) _) | (refine Below.alloc ?_ (by first | omega | (simp; done) | (simp; omega)) _) | (refine Below.trans ?_ (Below.mono (by assumption) (by first | omega | (simp; done) | (simp; omega))))))⟩)
set_option maxHeartbeats 2000000 in
theorem kwithinr_any (ai : Bool) (an : Int) (bi : Bool) (bn : Int) (w : World) : Calls Try.prog 71 #[.agg #[.bool ai, .int .i64 an], .agg #[.bool bi, .int .i64 bn]] w fun e w' => e = .returned (.bool (withinK ai an bi bn)) ∧ Below w.heap.size w w' := by
  cases ai <;> cases bi <;> by_cases h : an = bn <;> (try subst h) <;>
  · go_enter Try.func71, Try.ntmps71
    go_wp2
    all_goals (go_ret; exact ⟨by simp [withinK, *], (by repeat (first | exact Below.refl _ _ | (refine Below.drew ?_) | (refine Below.setCell ?_ (by first | omega | (simp; done) | (simp; omega)) _) | (refine Below.alloc ?_ (by first | omega | (simp; done) | (simp; omega)) _) | (refine Below.trans ?_ (Below.mono (by assumption) (by first | omega | (simp; done) | (simp; omega))))))⟩)
end Go.Proofs.Ytfndahdnbkmkkaa
