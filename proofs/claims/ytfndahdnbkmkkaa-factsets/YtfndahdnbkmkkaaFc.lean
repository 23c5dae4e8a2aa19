import Derived.Test.YtfndahdnbkmkkaaFn0
import Derived.WalkSmall
import Derived.Deep.RegionHeld3
import Derived.RegionTactic
namespace Go.Proofs.Ytfndahdnbkmkkaa
open Go.RowKit
theorem nright_any (lo hi : Int) (w : World) : Calls Try.prog 28 #[.agg #[.int .i64 lo, .int .i64 hi]] w fun e w' => e = .returned (.bool (decide (lo ≤ hi))) ∧ New1 w w' := by
  go_enter Try.func28, Try.ntmps28
  go_wp2
  go_ret
  exact ⟨rfl, _, rfl⟩
theorem nto_any (lo hi : Int) (w : World) : Calls Try.prog 31 #[.agg #[.int .i64 lo, .int .i64 hi]] w fun e w' => e = .returned (.agg #[.int .i64 lo, .int .i64 hi]) ∧ New2 w w' := by
  go_enter Try.func31, Try.ntmps31
  go_wp2
  exact bodyPost_ret (by simp [results, Try.results31, go_sem]; try rfl) rfl ⟨rfl, _, _, rfl⟩
theorem nfrom_any (lo hi : Int) (w : World) : Calls Try.prog 43 #[.agg #[.int .i64 lo, .int .i64 hi]] w fun e w' => e = .returned (.agg #[.int .i64 lo, .int .i64 hi]) ∧ New2 w w' := by
  go_enter Try.func43, Try.ntmps43
  go_wp2
  exact bodyPost_ret (by simp [results, Try.results43, go_sem]; try rfl) rfl ⟨rfl, _, _, rfl⟩
theorem nof_any (n : Int) (w : World) : Calls Try.prog 46 #[.int .i64 n] w fun e w' => e = .returned (.agg #[.int .i64 n, .int .i64 n]) ∧ New1 w w' := by
  go_enter Try.func46, Try.ntmps46
  go_wp2
  exact bodyPost_ret (by simp [results, Try.results46, go_sem]; try rfl) rfl ⟨rfl, _, rfl⟩
theorem nany_any (w : World) : Calls Try.prog 51 #[] w fun e w' => e = .returned (.agg #[.int .i64 (-9223372036854775808), .int .i64 9223372036854775807]) ∧ New1 w w' := by
  go_enter Try.func51, Try.ntmps51
  go_wp2
  exact bodyPost_ret (by simp [results, Try.results51, go_sem]; try rfl) rfl ⟨rfl, _, rfl⟩
theorem nanyr_any (w : World) : Calls Try.prog 52 #[] w fun e w' => e = .returned (.agg #[.int .i64 (-9223372036854775808), .int .i64 9223372036854775807]) ∧ New1 w w' := by
  go_enter Try.func52, Try.ntmps52
  go_wp2
  exact bodyPost_ret (by simp [results, Try.results52, go_sem]; try rfl) rfl ⟨rfl, _, rfl⟩
def hasR (lo hi n : Int) : Bool := decide (lo ≤ n) && decide (n ≤ hi)
theorem nhas_any (lo hi n : Int) (w : World) : Calls Try.prog 55 #[.agg #[.int .i64 lo, .int .i64 hi], .int .i64 n] w fun e w' => e = .returned (.bool (hasR lo hi n)) ∧ New1 w w' := by
  by_cases h : lo ≤ n <;> by_cases h2 : n ≤ hi <;>
  · go_enter Try.func55, Try.ntmps55
    go_wp2
    go_ret
    exact ⟨by simp [hasR, *], _, rfl⟩
theorem nfix_any (lo hi : Int) (w : World) : Calls Try.prog 33 #[.agg #[.int .i64 lo, .int .i64 hi]] w fun e w' => e = .returned (.agg #[.int .i64 (min lo hi), .int .i64 (max lo hi)]) ∧ New2 w w' := by
  by_cases h : hi < lo
  · go_enter Try.func33, Try.ntmps33
    go_wp2
    exact bodyPost_ret (by simp [results, Try.results33, go_sem]; try rfl) rfl ⟨by rw [Int.min_eq_right (by omega), Int.max_eq_left (by omega)], _, _, rfl⟩
  · go_enter Try.func33, Try.ntmps33
    go_wp2
    exact bodyPost_ret (by simp [results, Try.results33, go_sem]; try rfl) rfl ⟨by rw [Int.min_eq_left (by omega), Int.max_eq_right (by omega)], _, _, rfl⟩
theorem nhasr_any (lo hi n : Int) (w : World) : Calls Try.prog 59 #[.agg #[.int .i64 lo, .int .i64 hi], .int .i64 n] w fun e w' => e = .returned (.bool (hasR lo hi n)) ∧ New1 w w' := by
  by_cases h : lo ≤ n <;> by_cases h2 : n ≤ hi <;>
  · go_enter Try.func59, Try.ntmps59
    go_wp2
    go_ret
    exact ⟨by simp [hasR, *], _, rfl⟩
def withinR (al ah bl bh : Int) : Bool := decide (bl ≤ al) && decide (ah ≤ bh)
theorem nwithin_any (al ah bl bh : Int) (w : World) : Calls Try.prog 69 #[.agg #[.int .i64 al, .int .i64 ah], .agg #[.int .i64 bl, .int .i64 bh]] w fun e w' => e = .returned (.bool (withinR al ah bl bh)) ∧ New2 w w' := by
  by_cases h : bl ≤ al <;> by_cases h2 : ah ≤ bh <;>
  · go_enter Try.func69, Try.ntmps69
    go_wp2
    go_ret
    exact ⟨by simp [withinR, *], _, _, rfl⟩
theorem nwithinr_any (al ah bl bh : Int) (w : World) : Calls Try.prog 72 #[.agg #[.int .i64 al, .int .i64 ah], .agg #[.int .i64 bl, .int .i64 bh]] w fun e w' => e = .returned (.bool (withinR al ah bl bh)) ∧ New2 w w' := by
  by_cases h : bl ≤ al <;> by_cases h2 : ah ≤ bh <;>
  · go_enter Try.func72, Try.ntmps72
    go_wp2
    go_ret
    exact ⟨by simp [withinR, *], _, _, rfl⟩
theorem njoin_any (al ah bl bh : Int) (w : World) : Calls Try.prog 63 #[.agg #[.int .i64 al, .int .i64 ah], .agg #[.int .i64 bl, .int .i64 bh]] w fun e w' => e = .returned (.agg #[.int .i64 (min al bl), .int .i64 (max ah bh)]) ∧ New3 w w' := by
  by_cases h : al ≤ bl <;> by_cases h2 : ah ≤ bh <;>
  · go_enter Try.func63, Try.ntmps63
    go_wp2
    all_goals (exact bodyPost_ret (by simp [results, Try.results63, go_sem]; try rfl) rfl ⟨by simp only [Int.min_def, Int.max_def]; repeat' (first | rfl | split | (exfalso; omega) | (rw [show ah = bh by omega])), _, _, _, rfl⟩)
theorem njoinr_any (al ah bl bh : Int) (w : World) : Calls Try.prog 66 #[.agg #[.int .i64 al, .int .i64 ah], .agg #[.int .i64 bl, .int .i64 bh]] w fun e w' => e = .returned (.agg #[.int .i64 (min al bl), .int .i64 (max ah bh)]) ∧ New3 w w' := by
  by_cases h : al ≤ bl <;> by_cases h2 : ah ≤ bh <;>
  · go_enter Try.func66, Try.ntmps66
    go_wp2
    all_goals (exact bodyPost_ret (by simp [results, Try.results66, go_sem]; try rfl) rfl ⟨by simp only [Int.min_def, Int.max_def]; repeat' (first | rfl | split | (exfalso; omega) | (rw [show ah = bh by omega])), _, _, _, rfl⟩)
theorem nwiden_any (al ah bl bh : Int) (w : World) : Calls Try.prog 73 #[.agg #[.int .i64 al, .int .i64 ah], .agg #[.int .i64 bl, .int .i64 bh]] w fun e w' => e = .returned (.agg #[.int .i64 (if bl < al then -9223372036854775808 else al), .int .i64 (if ah < bh then 9223372036854775807 else ah)]) ∧ Below w.heap.size w w' := by
  by_cases h : bl < al <;> by_cases h2 : ah < bh <;>
  · go_enter Try.func73, Try.ntmps73
    go_wp2
    all_goals (exact bodyPost_ret (by simp [results, Try.results73, go_sem]; try rfl) rfl ⟨by first | rfl | simp [*], (by repeat (first | exact Below.refl _ _ | (refine Below.drew ?_) | (refine Below.setCell ?_ (by first | omega | (simp; done) | (simp; omega)) _) | (refine Below.alloc ?_ (by first | omega | (simp; done) | (simp; omega)) _) | (refine Below.trans ?_ (Below.mono (by assumption) (by first | omega | (simp; done) | (simp; omega))))))⟩)
theorem nwidenr_any (al ah bl bh : Int) (w : World) : Calls Try.prog 74 #[.agg #[.int .i64 al, .int .i64 ah], .agg #[.int .i64 bl, .int .i64 bh]] w fun e w' => e = .returned (.agg #[.int .i64 (if bl < al then -9223372036854775808 else al), .int .i64 (if ah < bh then 9223372036854775807 else ah)]) ∧ Below w.heap.size w w' := by
  by_cases h : bl < al <;> by_cases h2 : ah < bh <;>
  · go_enter Try.func74, Try.ntmps74
    go_wp2
    all_goals (exact bodyPost_ret (by simp [results, Try.results74, go_sem]; try rfl) rfl ⟨by first | rfl | simp [*], (by repeat (first | exact Below.refl _ _ | (refine Below.drew ?_) | (refine Below.setCell ?_ (by first | omega | (simp; done) | (simp; omega)) _) | (refine Below.alloc ?_ (by first | omega | (simp; done) | (simp; omega)) _) | (refine Below.trans ?_ (Below.mono (by assumption) (by first | omega | (simp; done) | (simp; omega))))))⟩)
theorem ret_sb {x y : Int} {b : Bool} {r : (Int × Int) × Bool} (h1 : r.1.1 = x) (h2 : r.1.2 = y) (h3 : r.2 = b) : Ending.returned (.tuple #[.agg #[.int .i64 x, .int .i64 y], .bool b]) = Ending.returned (.tuple #[.agg #[.int .i64 (r.1).1, .int .i64 (r.1).2], .bool r.2]) := by subst h1 h2 h3; rfl
theorem ret_s {x y : Int} {r : Int × Int} (h1 : r.1 = x) (h2 : r.2 = y) : Ending.returned (.agg #[.int .i64 x, .int .i64 y]) = Ending.returned (.agg #[.int .i64 r.1, .int .i64 r.2]) := by subst h1 h2; rfl
def meetP (a b : Int × Int) : (Int × Int) × Bool := if max a.1 b.1 ≤ min a.2 b.2 then ((max a.1 b.1, min a.2 b.2), true) else ((0, 0), false)
end Go.Proofs.Ytfndahdnbkmkkaa
